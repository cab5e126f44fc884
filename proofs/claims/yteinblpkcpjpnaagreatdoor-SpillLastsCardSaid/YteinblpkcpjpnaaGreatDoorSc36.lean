/- Part of a chain: SpCom, SpNot, SpDon, SpPut, SpWai, SpTal, SpCalm, SpClg. -/
import Derived.Test.YteinblpkcpjpnaaGreatDoorSc35
import Derived.Test.YteinblpkcpjpnaaGreatDoorSc34
import Derived.Test.YteinblpkcpjpnaaGreatDoorSc28
/- Package spill: Compact. Written by gen_compact.py out of compact.txt. -/
namespace Go.Proofs.YteinblpkcpjpnaaGreatDoor
open Go Go.RowKit Go.Maps Go.Sort
set_option linter.unusedVariables false
set_option linter.unusedSimpArgs false
set_option maxRecDepth 100000

/-- At most so many entries. -/
def FewK (K : Nat) (x : Ix) : Prop := x.puts.length ≤ K ∧ x.waits.length ≤ K
theorem follow_fewK {K : Nat} {x rest : Ix} (h : FewK K x) : FewK K (followX x rest) := by
  rw [follow_eq]
  unfold FewK
  dsimp only
  rw [(fpG_same srtI_some).1, (fwG_same srtS_some).1]
  exact h
theorem pruneGo_few {K : Nat} : ∀ (l : List Int) (g : Lg) (all : Ix), FewK K g.x → FewK K (pruneGo l g all).1.x ∧ (pruneGo l g all).1.n = g.n
  | [], g, all, h => ⟨h, rfl⟩
  | s :: t, g, all, h => by
    unfold pruneGo
    split
    · split
      · exact pruneGo_few t _ _ (follow_fewK h)
      · exact ⟨h, rfl⟩
    · exact pruneGo_few t _ _ h
theorem prune_few {K : Nat} {g : Lg} (h : FewK K g.x) : FewK K (pruneL g).1.x ∧ (pruneL g).1.n = g.n := by
  unfold pruneL
  split
  · exact pruneGo_few _ _ _ h
  · exact ⟨h, rfl⟩
/-! New segments lie behind all others. -/
theorem pS_last : ∀ {S : Sgs} {n : Int} (b : List Int), (∀ p ∈ S, p.1 < n) → pS S n b = S ++ [(n, b)]
  | [], n, b, _ => rfl
  | (m, c) :: t, n, b, h => by
    have h1 : m < n := h (m, c) List.mem_cons_self
    unfold pS
    rw [if_neg (by omega), if_neg (by omega), pS_last b (fun p hp => h p (List.mem_cons_of_mem _ hp))]
    rfl
theorem follow_last {S : Sgs} (hs : SS S) {l : List Int} (hl : S.map Prod.fst = l) (h2 : (followL l).2 = true) : ∀ p ∈ S, p.1 < (followL l).1 := by
  intro p hp
  have hm : p.1 ∈ l := hl ▸ List.mem_map_of_mem hp
  have hsrt : l.Pairwise (· < ·) := by
    rw [← hl, List.pairwise_map]
    exact hs
  unfold followL at h2 ⊢
  cases hg : l.getLast? with
  | none =>
    rw [List.getLast?_eq_none_iff] at hg
    rw [hg] at hm
    cases hm
  | some v =>
    rw [hg] at h2
    dsimp only at h2 ⊢
    by_cases hv : v = 9223372036854775807
    · rw [if_pos hv] at h2; cases h2
    · rw [if_neg hv]
      dsimp only
      obtain ⟨t, ht⟩ := List.getLast?_eq_some_iff.1 hg
      rw [ht] at hm hsrt
      rw [List.pairwise_append] at hsrt
      rcases List.mem_append.1 hm with hm | hm
      · have := hsrt.2.2 _ hm v (by simp)
        omega
      · rw [List.mem_singleton] at hm
        omega
theorem segs_tick (D : Ds) : segsL D.tick = segsL D := rfl
theorem sync_S (D : Ds) : (syncD D).1.S = D.S := by
  unfold syncD
  split <;> rfl
theorem app_S (D : Ds) (n : Int) (b : List Int) : ((appD D n b).2 = 0 → (appD D n b).1.S = pS D.S n (gD D.S n ++ b)) ∧ ((appD D n b).2 ≠ 0 → (appD D n b).1.S = D.S) := by
  unfold appD
  split
  · exact ⟨fun h => absurd (show (5 : Int) = 0 from h) (by decide), fun _ => rfl⟩
  · split
    · exact ⟨fun h => absurd (show (7 : Int) = 0 from h) (by decide), fun _ => rfl⟩
    · exact ⟨fun _ => rfl, fun h => absurd rfl h⟩
theorem rewL_segs : ∀ (cs : List (List Int)) (D : Ds) (l : List Int), SS D.S → segsL D = l → (rewL D l cs).2.1 = segsL (rewL D l cs).1 ∧ l <+: (rewL D l cs).2.1
  | [], D, l, hs, hl => by
    unfold rewL
    refine ⟨?_, List.prefix_refl _⟩
    rw [← hl]
    unfold segsL
    rw [sync_S]
  | c :: t, D, l, hs, hl => by
    unfold rewL
    by_cases h2 : (followL l).2 = true
    · rw [if_pos h2]
      have hf := follow_last hs hl h2
      by_cases h3 : (appD D (followL l).1 c).2 = 0
      · rw [if_pos h3]
        have e := (app_S D (followL l).1 c).1 h3
        have ih := rewL_segs t (appD D (followL l).1 c).1 (l ++ [(followL l).1]) (by rw [e]; exact SS_put hs _ _) (by
          unfold segsL
          rw [e, pS_last _ hf, List.map_append]
          show segsL D ++ _ = _
          rw [hl]
          rfl)
        exact ⟨ih.1, (List.prefix_append _ _).trans ih.2⟩
      · rw [if_neg h3]
        refine ⟨?_, List.prefix_refl _⟩
        unfold segsL
        rw [(app_S D (followL l).1 c).2 h3]
        exact hl.symm
    · rw [if_neg h2]
      exact ⟨hl.symm, List.prefix_refl _⟩
theorem rewrite_len {g : Lg} (hs : SS g.D.S) {w' : World} {R : Nat → Prop} {d : Nat} (h : DkM w' R d (rewriteL g).1) : (rewriteL g).2.1.length ≤ 16 := by
  have hc := h.cnt
  unfold rewriteL at hc ⊢
  split
  · exact Nat.zero_le _
  · rename_i hn
    rw [if_neg hn] at hc
    dsimp only at hc ⊢
    rw [(rewL_segs (packL g) g.D (segsL g.D) hs rfl).1, List.length_drop]
    unfold segsL at hc ⊢
    rw [List.length_map]
    omega
section
variable {w w' : World} {RD RL : Nat → Prop} {d L : Nat} {g : Lg}
theorem LgM.diskG {D' : Ds} {R2 : Nat → Prop} (h : LgM w RD RL d L g) (hd : DkM w' R2 d D') (ht : TurnR RD w R2 w') : AftG RD RL d L w ⟨D', g.n, g.x⟩ w' R2 RL :=
  ⟨⟨hd, h.lx.only ht.only (fun k h1 h2 => h.ap k h2 h1), fun k hk hl => by
    rcases ht.new k hk with e | e
    · exact h.ap k e hl
    · have := h.lx.lt k hl
      omega, h.now.only ht.only h.nD, fun e => by
    rcases ht.new _ e with e | e
    · exact h.nD e
    · have := h.now.lt
      omega, h.nL⟩, ht.only.wide (fun k hk => Or.inl hk), ht.new, fun k hk => Or.inl hk⟩
theorem LgM.n_cell (h : LgM w RD RL d L g) : w.cell? ⟨L, 1, none⟩ = some (.int .i64 g.n) := by
  obtain ⟨pm, wm, hi, hmi⟩ := h.lx.ix
  exact hi.box.cell 1
theorem ksize_at (h : LgM w RD RL d L g) (N : Nat) (hN : g.D.S.length = N) : Calls Tryz.prog 22 #[.pointer (some ⟨L, 0, none⟩)] w fun e w' => e = .returned (.int .i64 (N : Int)) ∧ Below w.heap.size w w' := by
  obtain ⟨pm, wm, hi, hmi⟩ := h.lx.ix
  obtain ⟨bm, uc, V, ua, hd, hm⟩ := h.dk.dm
  exact size_at hd hi.box N hN
/-- A new index is stored. -/
theorem LgM.reindex {W : World} (h : LgM w RD RL d L g) (hb : Below w.heap.size w W) {pm : Nat} {wm : Option Nat} {y : Ix} (hp : PtM W pm y.puts) (hw : WtM W wm y.waits) (hne : wm ≠ some pm) (g1 : w.heap.size ≤ pm) (g2 : ∀ m, wm = some m → w.heap.size ≤ m) (hok : IxOk y) :
    ((Instr.storeAt 66 (.pointer (some ⟨L, 2, none⟩)) (.agg #[.map (some pm), .map wm, .int .i64 y.top])).run Tryz.prog W = .ok () (W.setRow L (logC d g.n pm wm y.top))) ∧ AftL RD RL d L w ⟨g.D, g.n, y⟩ (W.setRow L (logC d g.n pm wm y.top)) := by
  obtain ⟨pm0, wm0, hi, hmi⟩ := h.lx.ix
  have hB := hi.box.later hb
  have hg : W.heap[L]? = some (.cells (logC d g.n pm0 wm0 g.x.top) 70 (0, 0)) := hB
  have hst := run_storeCells_at Tryz.prog L 2 70 [.map (some pm), .map wm, .int .i64 y.top] 0 (logC d g.n pm0 wm0 g.x.top) W hg (show 5 ≤ 5 by decide) (fun v hv => by
    rcases List.mem_cons.1 hv with rfl | hv
    · rfl
    · rcases List.mem_cons.1 hv with rfl | hv
      · rfl
      · rw [List.mem_singleton] at hv
        rw [hv]; rfl)
  have hsz : (Tryz.prog.info? 66).map (·.size) = some 3 := by kernel_rfl
  obtain ⟨inf, hq, hi2⟩ := Option.map_eq_some_iff.1 hsz
  have hRL : RL L := hmi L (Or.inl rfl)
  have hp' : PtM (W.setRow L (logC d g.n pm wm y.top)) pm y.puts := hp.block (setRow_other _ _ _ _ (am_not_box hp hB))
  have hw' : WtM (W.setRow L (logC d g.n pm wm y.top)) wm y.waits := hw.later (fun m hm => setRow_other _ _ _ _ (by
    rcases hw with ⟨e, _⟩ | ⟨m2, e, hm2⟩
    · rw [e] at hm; cases hm
    · rw [e] at hm; cases hm; exact am_not_box hm2 hB))
  have hx : IxM (W.setRow L (logC d g.n pm wm y.top)) 0 L 2 (logC d g.n pm wm y.top) 70 pm wm y := ⟨hB.setRow _, rfl, rfl, rfl, hp', hw', hne, Nat.zero_le _, Nat.zero_le _, fun m _ => Nat.zero_le _⟩
  refine ⟨?_, h.index ⟨MineI L pm wm, ⟨⟨pm, wm, hx, fun k hk => hk⟩, fun k hk => (hx.lt hk).1, hok⟩, ⟨(Only.of_below _ hb).setRow (Or.inl hRL) _, fun k hk => ?_⟩⟩⟩
  · simp only [Instr.storeAt, Instr.sureAddr, Sem.run_bind, Sem.run_pure, Result.andThen]
    simp [storeVar, sizeOf, typeInfo, hq, Value.cells, hi2]
    simpa [logC] using hst
  · rcases hk with hk | hk | hk
    · exact Or.inl (hk ▸ hRL)
    · exact Or.inr (hk ▸ g1)
    · exact Or.inr (g2 k hk)
end
theorem step_store_run {P : Program} {ops : Array Oper} {o : Oper} {act : Act} {K : Act → World → Prop} {Q : Exit → Act → World → Prop} {F : Prop} {w w' : World} (hgd : o.guard = none) {E : TypeId} {x y : Operand} (ho : o.op = .store E x y) {u v : Value} (hx : act.eval x = u) (hy : act.eval y = v)
    (hs : (Instr.storeAt E u v).run P w = .ok () w') (h : K (act.put o.dst undef) w') : if Region.wanted o (yielded ops act.tmps) = true then Oper.wp P o act w K Q else F := by
  have hw : Region.wanted o (yielded ops act.tmps) = true := by simp [Region.wanted, hgd]
  rw [if_pos hw]
  unfold Oper.wp execOp
  simp only [ho, hx, hy, Sem.run_bind, Sem.run_pure, hs, Result.andThen_ok]
  exact h
theorem compact_eq (g : Lg) : compactL g = if g.n < (g.D.S.length : Int) then (if (pruneL g).2 = 0 then compactGo (pruneL g).1 else pruneL g) else compactGo g := rfl
theorem cgo_eq (g : Lg) : compactGo g = if (rewriteL g).2.2 = 0 then (⟨(dropsD (rewriteL g).1 (segsL g.D)).1, g.n, replL (rewriteL g).1.S (rewriteL g).2.1⟩, (dropsD (rewriteL g).1 (segsL g.D)).2)
  else (⟨(dropsD (rewriteL g).1 (rewriteL g).2.1).1, g.n, g.x⟩, (rewriteL g).2.2) := rfl
def CmP (w : World) (RD RL : Nat → Prop) (d L K : Nat) (g1 : Lg) (w' : World) : Prop := AftL RD RL d L w g1 w' ∧ FewK K g1.x
set_option maxHeartbeats 8000000 in
theorem compact_at {w : World} {RD RL : Nat → Prop} {d L : Nat} {g : Lg} (h : LgM w RD RL d L g) {K : Nat} (hf : FewK K g.x) (hK1 : 32768 ≤ K) (hK2 : K ≤ 900000) (hgn : g.n ≤ 1000) :
    Calls Tryz.prog 16 #[.pointer (some ⟨L, 0, none⟩)] w fun e w' => e = .returned (.int .i64 (compactL g).2) ∧ CmP w RD RL d L K (compactL g).1 w' := by
  obtain ⟨F, hF⟩ : ∃ F, compactL g = F := ⟨_, rfl⟩
  have HF : Hid (F = if g.n < (g.D.S.length : Int) then (if (pruneL g).2 = 0 then compactGo (pruneL g).1 else pruneL g) else compactGo g) := Lib.hid (by rw [← hF]; exact compact_eq g)
  rw [hF]
  have G := Lib.hid h
  have HFK := Lib.hid hf
  have HGN := Lib.hid hgn
  have HKK := Lib.hid hK1
  obtain ⟨N, hN⟩ : ∃ N, g.D.S.length = N := ⟨_, rfl⟩
  have SZ := Lib.hid (fun (W : World) (hW : LgM W RD RL d L g) => ksize_at hW N hN)
  have hFew : Few g.x := ⟨Nat.le_trans hf.1 hK2, Nat.le_trans hf.2 hK2⟩
  have PR := Lib.hid (fun (W : World) (hW : LgM W RD RL d L g) => prune_at hW hFew)
  have PF := Lib.hid (prune_few hf)
  rw [hN] at HF
  obtain ⟨X, hX⟩ : ∃ X, pruneL g = X := ⟨_, rfl⟩
  rw [hX] at PR PF HF
  obtain ⟨gp, ep⟩ := X
  dsimp only at PR PF HF
  have mixed : Tryz.prog.follows .mixedOrders = true := by kernel_rfl
  clear hX hF h hf hgn hK1 hN hFew
  go_enter Tryz.func16, Tryz.ntmps16
  go_upto_region 3 with fail
  refine wp_region_last 6 (fun w' => LgM w' RD RL d L g ∧ Below w.heap.size w w') (by kernel_rfl) (⟨G.out.drew, (Below.refl _ _).drew⟩) (fun hHeld hClosed => ?_)
  refine wpAnyL_take (i := 0) (v := ?_) rfl (by kernel_rfl) (by kernel_rfl) (by kernel_rfl) (by kernel_rfl) (fun _ _ _ h => h) (by kernel_rfl) hClosed (Or.inl ⟨by rfl, ?_⟩) hHeld (fun hClosed => ?_)
  rotate_left
  · intro wv hSw; go_simp; all_goals (with_reducible rfl)
  (try simp only [List.getElem_toArray, List.getElem_cons_zero, put_at, List.set])
  refine wpAnyL_take (i := 2) (v := ?_) rfl (by kernel_rfl) (by kernel_rfl) (by kernel_rfl) (by kernel_rfl) (fun _ _ _ h => h) (by kernel_rfl) hClosed (Or.inl ⟨by rfl, ?_⟩) hHeld (fun hClosed => ?_)
  rotate_left
  · intro wv hSw; go_simp; all_goals (with_reducible rfl)
  (try simp only [List.getElem_toArray, List.getElem_cons_succ, List.getElem_cons_zero, put_at, List.set])
  refine wpAnyL_take (i := 3) (v := ?_) rfl (by kernel_rfl) (by kernel_rfl) (by kernel_rfl) (by kernel_rfl) (fun _ _ _ h => h) (by kernel_rfl) hClosed (Or.inl ⟨by rfl, ?_⟩) hHeld (fun hClosed => ?_)
  rotate_left
  · intro wv hSw; go_simp; all_goals (with_reducible rfl)
  (try simp only [List.getElem_toArray, List.getElem_cons_succ, List.getElem_cons_zero, put_at, List.set])
  refine wpAnyL_take (i := 4) (v := ?_) rfl (by kernel_rfl) (by kernel_rfl) (by kernel_rfl) (by kernel_rfl) (fun _ _ _ h => h) (by kernel_rfl) hClosed (Or.inl ⟨by rfl, ?_⟩) hHeld (fun hClosed => ?_)
  rotate_left
  · intro wv hSw; go_simp; all_goals (with_reducible rfl)
  (try simp only [List.getElem_toArray, List.getElem_cons_succ, List.getElem_cons_zero, put_at, List.set])
  refine wpAnyL_take (i := 5) (v := ?_) rfl (by kernel_rfl) (by kernel_rfl) (by kernel_rfl) (by kernel_rfl) (fun _ _ _ h => h) (by kernel_rfl) hClosed (Or.inl ⟨by rfl, ?_⟩) hHeld (fun hClosed => ?_)
  rotate_left
  · intro wv hSw; have l1 := hSw.1.n_cell; go_simp; all_goals (with_reducible rfl)
  (try simp only [List.getElem_toArray, List.getElem_cons_succ, List.getElem_cons_zero, put_at, List.set])
  refine wpAnyL_one (i := 1) rfl (by kernel_rfl) (by kernel_rfl) hClosed (fun KK hK => ?_)
  go_simp
  refine (SZ.out _ hHeld.1).mono ?_
  rintro e w2 ⟨rfl, hb2⟩
  go_wp2_with fail
  refine hK.out _ _ ?_ (fun hClosed hHeld => ?_)
  · exact ⟨hHeld.1.later hb2, hHeld.2.trans (hb2.mono hHeld.2.size)⟩
  clear hK KK
  (first | simp only [List.getElem_toArray, List.getElem_cons_succ, List.getElem_cons_zero, put_at, List.set] | (try simp only [put_at, List.set]))
  refine wpAnyL_last rfl (by kernel_rfl) (by kernel_rfl) (fun KK hK => ?_)
  go_simp
  refine hK.out _ _ ?_
  (try simp only [put_at, List.set])
  have GW := Lib.hid hHeld.1
  have BW := Lib.hid hHeld.2
  clear hHeld hClosed SZ
  go_upto_if 15 with fail
  go_cut [] (fun wc => ∃ (g1 : Lg) (R1 R2 : Nat → Prop), Hid (AftG RD RL d L w g1 wc R1 R2 ∧ FewK K g1.x ∧ g1.n ≤ 1000 ∧ compactGo g1 = F))
  case first =>
    by_cases hq : g.n < (N : Int)
    · have dq : decide (g.n < (N : Int)) = true := decide_eq_true hq
      have HF2 : Hid (F = if ep = 0 then compactGo gp else (gp, ep)) := Lib.hid (by rw [HF.out, if_pos hq])
      have PR2 := Lib.hid (PR.out _ GW.out)
      clear HF PR
      go_wp2_with fail
      refine PR2.out.mono ?_
      rintro e w3 ⟨rfl, ha⟩
      have A3 : Hid (AftL RD RL d L w gp w3) := Lib.hid (AftL.before BW.out ha)
      clear ha PR2 GW BW
      by_cases hz : ep = 0
      · have dz : (ep != 0) = false := by simp [hz]
        obtain ⟨R1, R2, A4⟩ := A3.out
        have NX : Hid (AftG RD RL d L w gp w3 R1 R2 ∧ FewK K gp.x ∧ gp.n ≤ 1000 ∧ compactGo gp = F) := Lib.hid ⟨A4, PF.out.1, by rw [PF.out.2]; exact HGN.out, by rw [HF2.out, if_pos hz]⟩
        clear A4 A3 hz HF2
        go_wp2_with fail
        go_meet
        exact ⟨gp, R1, R2, NX⟩
      · have dz : (ep != 0) = true := by simp [hz]
        have FIN : Hid (F = (gp, ep) ∧ CmP w RD RL d L K gp w3) := Lib.hid ⟨by rw [HF2.out, if_neg hz], A3.out, PF.out.1⟩
        clear A3 hz HF2
        go_wp2_with fail
        go_ret
        obtain ⟨rfl, h9⟩ := FIN.out
        exact ⟨rfl, h9⟩
    · have dq : decide (g.n < (N : Int)) = false := decide_eq_false hq
      have NX : Hid (AftG RD RL d L w g w2 RD RL ∧ FewK K g.x ∧ g.n ≤ 1000 ∧ compactGo g = F) := Lib.hid ⟨⟨GW.out, Only.of_below _ BW.out, fun k hk => Or.inl hk, fun k hk => Or.inl hk⟩, HFK.out, HGN.out, by rw [HF.out, if_neg hq]⟩
      clear HF PR GW BW
      go_wp2_with fail
      go_meet
      exact ⟨g, RD, RL, NX⟩
  obtain ⟨g1, R1, R2, A1⟩ := hcut
  clear HF PR PF GW BW HFK HGN G
  obtain ⟨N1, hN1⟩ : ∃ N1, g1.D.S.length = N1 := ⟨_, rfl⟩
  have SG := Lib.hid (ksegs_at A1.out.1.lg.dk N1 hN1)
  have HNL : Hid ((segsL g1.D).length = N1) := Lib.hid (by unfold segsL; rw [List.length_map, hN1])
  have hN16 : N1 ≤ 16 := hN1 ▸ A1.out.1.lg.dk.cnt
  have l0 := A1.out.1.lg.disk_cell
  clear hN1
  go_wp2_with fail
  refine SG.out.mono ?_
  rintro e w3 ⟨oa, oc, rfl, ho, hb⟩
  have A3 := Lib.hid (A1.out.1.later hb)
  have FK1 := Lib.hid A1.out.2.1
  have OW : Hid (RwO wc.heap.size N1 oc oa (segsL g1.D) R1 R2 w3) := Lib.hid ⟨ho, fun m hm => by
    subst hm
    have h9 := ho.lt.1
    exact ⟨fun e => by have := A1.out.1.lg.dk.lt m e; omega, fun e => by have := A1.out.1.lg.lx.lt m e; omega⟩⟩
  have RW := Lib.hid (rewrite_at A3.out.lg ⟨Nat.le_trans A1.out.2.1.1 hK2, Nat.le_trans A1.out.2.1.2 hK2⟩ (rdC_of_own ho (by decide)) HNL.out (fun e => by
    rcases ho.form with ⟨_, h1, h2⟩ | ⟨g9, h1, _⟩
    · exact ⟨h1, h2⟩
    · rw [e] at h1; cases h1) A1.out.2.2.1)
  have HSS := Lib.hid A1.out.1.lg.dk.ss
  have HF1 : Hid (F = if (rewriteL g1).2.2 = 0 then (⟨(dropsD (rewriteL g1).1 (segsL g1.D)).1, g1.n, replL (rewriteL g1).1.S (rewriteL g1).2.1⟩, (dropsD (rewriteL g1).1 (segsL g1.D)).2) else (⟨(dropsD (rewriteL g1).1 (rewriteL g1).2.1).1, g1.n, g1.x⟩, (rewriteL g1).2.2)) := Lib.hid (by rw [← A1.out.2.2.2]; exact cgo_eq g1)
  have HLN := Lib.hid (fun (W : World) (R : Nat → Prop) (hW : DkM W R d (rewriteL g1).1) => rewrite_len HSS.out hW)
  have SOK : Hid (∀ s ∈ segsL g1.D, okI s) := Lib.hid (fun s hs => (A1.out.1.lg.dk.segs_ok s hs).1)
  clear ho hb SG l0 A1
  obtain ⟨X, hX⟩ : ∃ X, rewriteL g1 = X := ⟨_, rfl⟩
  rw [hX] at RW HF1 HLN
  obtain ⟨D2, fr, e2⟩ := X
  dsimp only at RW HF1 HLN
  clear hX HSS
  go_wp2_with fail
  refine RW.out.mono ?_
  rintro e w4 ⟨M, fc, fa, rfl, Q1, hd, ht, hlen, hrd, hok, hM, hap⟩
  have hM16 : M ≤ 16 := hlen ▸ HLN.out _ _ hd
  have A4 := A3.out.lg.diskG hd ht
  have A5 := Lib.hid (A3.out.step A4)
  have OW2 := Lib.hid (OW.out.aft A4)
  have DK4 := Lib.hid hd
  have FRL := Lib.hid hlen
  have FRD := Lib.hid hrd
  have FOK : Hid (∀ s ∈ fr, okI s) := Lib.hid (fun s hs => (hok s hs).1)
  have FAP : Hid (∀ g off, fa = some ⟨g, off, none⟩ → ¬ Q1 g) := Lib.hid (fun g off e => (hap g off e).2)
  clear hd ht hlen hrd hok hM hap A4 A3 OW RW HLN
  by_cases hz : e2 = 0
  · have dz : (e2 != 0) = false := by simp [hz]
    have HF2 : Hid (F = (⟨(dropsD D2 (segsL g1.D)).1, g1.n, replL D2.S fr⟩, (dropsD D2 (segsL g1.D)).2)) := Lib.hid (by rw [HF1.out, if_pos hz])
    clear hz HF1
    obtain ⟨g2, hg2⟩ : ∃ g2 : Lg, (⟨D2, g1.n, g1.x⟩ : Lg) = g2 := ⟨_, rfl⟩
    rw [hg2] at A5
    have ED : Hid (g2.D = D2 ∧ g2.n = g1.n) := Lib.hid (by rw [← hg2]; exact ⟨rfl, rfl⟩)
    rw [← ED.out.1] at DK4 HF2
    have G5 := Lib.hid A5.out.lg
    have RX : Hid (IxOk (replL g2.D.S fr) ∧ FewK K (replL g2.D.S fr)) := Lib.hid (by
      have h9 := replL_ok DK4.out.byt DK4.out.seg FOK.out
      rw [FRL.out] at h9
      exact ⟨h9.1, by have := HKK.out; have := h9.2.1; omega, by have := HKK.out; have := h9.2.2; omega⟩)
    have RP := Lib.hid (kreplay_at DK4.out fr M fc fa FRL.out hM16 FRD.out FOK.out)
    have l0 := G5.out.disk_cell
    obtain ⟨rx, hrx⟩ : ∃ rx, replL g2.D.S fr = rx := ⟨_, rfl⟩
    rw [hrx] at RX RP HF2
    clear hrx hg2 DK4 FRD FAP
    go_wp2_with fail
    refine RP.out.mono ?_
    rintro e w6 ⟨pm, wm, rfl, hp6, hw6, hne6, hp6b, hw6b, hb6⟩
    obtain ⟨hst, hre⟩ := G5.out.reindex hb6 hp6 hw6 hne6 hp6b hw6b RX.out.1
    clear l0 hp6 hw6 hne6 hp6b hw6b hb6
    obtain ⟨Q3, Q4, A6⟩ := hre
    have OW3 := Lib.hid (OW2.out.aft A6)
    have A7 := Lib.hid (A5.out.step A6)
    obtain ⟨w7, hw7⟩ : ∃ W, w6.setRow L (logC d g2.n pm wm rx.top) = W := ⟨_, rfl⟩
    rw [hw7] at A7 OW3 hst
    have DR := Lib.hid (drops_at A7.out.lg.dk (segsL g1.D) N1 oc oa HNL.out (by omega) (rdC_of_own OW3.out.own (by decide)) SOK.out (fun g off e => (OW3.out.off g (by
      rcases OW3.out.own.form with ⟨h1, _⟩ | ⟨g9, h1, _⟩
      · rw [h1] at e; cases e
      · rw [h1] at e ⊢; cases e; rfl)).1))
    dsimp only at DR
    have l0 := A7.out.lg.disk_cell
    have FIN : Hid (∀ W, AftK Q3 d w7 (dropsD g2.D (segsL g1.D)).1 W → F = (⟨(dropsD g2.D (segsL g1.D)).1, g1.n, rx⟩, (dropsD g2.D (segsL g1.D)).2) ∧ CmP w RD RL d L K ⟨(dropsD g2.D (segsL g1.D)).1, g1.n, rx⟩ W) := Lib.hid (fun W hW => ⟨HF2.out, by
      obtain ⟨Q5, Q6, A8⟩ := A7.out.lg.disk hW
      have A9 := A7.out.step A8
      dsimp only at A9
      rw [ED.out.2] at A9
      exact ⟨Q5, Q6, A9⟩, RX.out.2⟩)
    clear A6 hw7 A7 OW3 OW2 A5 RX HF2 ED FK1 SOK HNL G5 RP
    go_wp2_with (refine wpList_storeP rfl _ _ _ rfl rfl rfl hst ?_)
    refine DR.out.mono ?_
    rintro e w8 ⟨rfl, ha⟩
    have FN := Lib.hid (FIN.out w8 ha)
    clear FIN ha DR
    go_wp2_with fail
    go_ret
    obtain ⟨rfl, h9⟩ := FN.out
    exact ⟨rfl, h9⟩
  · have dz : (e2 != 0) = true := by simp [hz]
    have DR := Lib.hid (drops_at DK4.out fr M fc fa FRL.out (by omega) FRD.out FOK.out FAP.out)
    have FIN : Hid (∀ W, AftK Q1 d w4 (dropsD D2 fr).1 W → F = (⟨(dropsD D2 fr).1, g1.n, g1.x⟩, e2) ∧ CmP w RD RL d L K ⟨(dropsD D2 fr).1, g1.n, g1.x⟩ W) := Lib.hid (fun W hW => ⟨by rw [HF1.out, if_neg hz], by
      obtain ⟨Q3, Q4, A6⟩ := A5.out.lg.disk hW
      exact ⟨Q3, Q4, A5.out.step A6⟩, FK1.out⟩)
    have l0 := A5.out.lg.disk_cell
    clear hz HF1 A5 OW2 FK1
    go_wp2_with fail
    refine DR.out.mono ?_
    rintro e w5 ⟨rfl, ha⟩
    have FN := Lib.hid (FIN.out w5 ha)
    clear FIN ha DR
    go_wp2_with fail
    go_ret
    obtain ⟨rfl, h9⟩ := FN.out
    exact ⟨rfl, h9⟩
end Go.Proofs.YteinblpkcpjpnaaGreatDoor
/- Package spill: note: a record is written, or all is. Written by gen_note.py. -/
namespace Go.Proofs.YteinblpkcpjpnaaGreatDoor
open Go Go.RowKit Go.Maps
set_option linter.unusedVariables false
set_option linter.unusedSimpArgs false
set_option maxRecDepth 100000

section
variable {w w' : World} {RD RL : Nat → Prop} {d L K : Nat} {g g1 : Lg}
theorem room_ok (h : LgM w RD RL d L g) {size : Nat} (hs : size ≤ 100000) {P : Pl} (hP : roomL g.D g.n size = (P, true)) : PlOk P ∧ 0 ≤ P.seg := by
  have hk := h.dk.segs_ok
  have hf := followL_ok hk
  unfold roomL at hP
  split at hP
  · cases hP
  · split at hP
    · rename_i p hp
      obtain ⟨v, hv, hl⟩ := Option.bind_eq_some_iff.1 hp
      unfold lastP at hl
      split at hl
      · rename_i hq
        injection hl with hl
        injection hP with hP _
        subst hP
        subst hl
        have h9 := hk v (List.mem_of_getLast? hv)
        exact ⟨⟨h9.1, Int.natCast_nonneg _, by show ((usedL _ : Nat) : Int) ≤ _; have := hq.2; omega, Int.natCast_nonneg _, by show (size : Int) ≤ _; omega⟩, h9.2⟩
      · cases hl
    · unfold freshP at hP
      injection hP with hP _
      subst hP
      exact ⟨⟨hf.1, Int.le_refl 0, by show (0 : Int) ≤ _; decide, Int.natCast_nonneg _, by show (size : Int) ≤ _; omega⟩, hf.2⟩
theorem CmP.later {w2 : World} (h : CmP w RD RL d L K g1 w') (hb : Below w'.heap.size w' w2) : CmP w RD RL d L K g1 w2 := ⟨h.1.later hb, h.2⟩
theorem CmP.before {w0 : World} (hb : Below w0.heap.size w0 w) (h : CmP w RD RL d L K g1 w') : CmP w0 RD RL d L K g1 w' := ⟨AftL.before hb h.1, h.2⟩
/-- A box of one's own stays. -/
theorem AftL.box {b : Nat} {cs : Array Value} {t : TypeId} (h : AftL RD RL d L w g1 w') (hb : Box w b cs t) (hn : ¬ (RD b ∨ RL b)) : Box w' b cs t := by
  obtain ⟨R1, R2, k⟩ := h
  exact hb.only k.only hn
theorem AftL.now (h : AftL RD RL d L w g1 w') : NowM w' := by
  obtain ⟨R1, R2, k⟩ := h
  exact k.lg.now
theorem AftL.over {w0 : World} {z : Nat} (hb : Below w0.heap.size w0 w) (h : AftL RD RL d L w g1 w') (hn : ¬ (RD z ∨ RL z)) (hz : z < w.heap.size) (hw : w0.heap.size ≤ z) (hN : gNow < w0.heap.size) (cs : Array Value) : AftL RD RL d L w0 g1 (w'.setRow z cs) := by
  obtain ⟨R1, R2, k⟩ := h
  have k0 : AftG RD RL d L w0 g1 w' R1 R2 := ⟨k.lg, (Only.of_below _ hb).trans k.only (fun x hx => Or.inl hx), fun x hx => by
    rcases k.newD x hx with e | e
    · exact Or.inl e
    · exact Or.inr (Nat.le_trans hb.size e), fun x hx => by
    rcases k.newL x hx with e | e
    · exact Or.inl e
    · exact Or.inr (Nat.le_trans hb.size e)⟩
  refine ⟨R1, R2, k0.over (B := 0) ⟨fun e => ?_, fun e => ?_, Nat.zero_le _⟩ hw hN cs⟩
  · rcases k.newD z e with e | e
    · exact hn (Or.inl e)
    · omega
  · rcases k.newL z e with e | e
    · exact hn (Or.inr e)
    · omega
theorem LgM.not_own (h : LgM w RD RL d L g) {z : Nat} (hz : w.heap.size ≤ z) : ¬ (RD z ∨ RL z) := by
  rintro (e | e)
  · have := h.dk.lt z e; omega
  · have := h.lx.lt z e; omega
end
theorem note_no {g : Lg} {r : Rc} (h : ¬ soundR r) : noteL g r = (g, nowh, 2) := by unfold noteL; rw [if_neg h]
theorem note_full {g : Lg} {r : Rc} (h : soundR r) (hr : (roomL g.D g.n (encR r).length).2 = false) : noteL g r = ((compactL g).1, nowh, (compactL g).2) := by
  unfold noteL; rw [if_pos h, hr, if_neg (by decide)]
theorem note_yes {g : Lg} {r : Rc} (h : soundR r) (hr : (roomL g.D g.n (encR r).length).2 = true) : noteL g r = (⟨(writeD g.D (roomL g.D g.n (encR r).length).1.seg (encR r)).1, g.n, g.x⟩, (if (writeD g.D (roomL g.D g.n (encR r).length).1.seg (encR r)).2 = 0 then (roomL g.D g.n (encR r).length).1 else nowh), (writeD g.D (roomL g.D g.n (encR r).length).1.seg (encR r)).2) := by
  unfold noteL; rw [if_pos h, if_pos hr]
set_option maxHeartbeats 4000000 in
theorem note_at {w : World} {RD RL : Nat → Prop} {d L : Nat} {g : Lg} (h : LgM w RD RL d L g) (r : Rc) {K : Nat} (hf : FewK K g.x) (hK1 : 32768 ≤ K) (hK2 : K ≤ 900000) (hgn : g.n ≤ 1000) (X : Lg × Pl × Int) (hX : noteL g r = X) :
    Calls Tryz.prog 30 #[.pointer (some ⟨L, 0, none⟩), .agg (recL r).toArray] w fun e w' => e = .returned (.tuple #[plV X.2.1, .int .i64 X.2.2]) ∧ CmP w RD RL d L K X.1 w' := by
  have EN := Lib.hid (fun (W : World) => kenc_at r W)
  have HX := Lib.hid hX.symm
  have G := Lib.hid h
  have CP := Lib.hid (fun (W : World) (hW : Below w.heap.size w W) => compact_at (h.later hW) hf hK1 hK2 hgn)
  have HFK := Lib.hid hf
  have HBY := Lib.hid (encO_byts r)
  have HLE := encO_len r
  obtain ⟨b, hb⟩ : ∃ b, encO r = b := ⟨_, rfl⟩
  have HB := Lib.hid hb
  rw [hb] at EN HBY HLE
  obtain ⟨m, hm⟩ : ∃ m, b.length = m := ⟨_, rfl⟩
  have HM := Lib.hid hm
  rw [hm] at EN HLE
  obtain ⟨⟨P, ok⟩, hP⟩ : ∃ Q, roomL g.D g.n m = Q := ⟨_, rfl⟩
  have RM := Lib.hid (fun (W : World) (hW : Below w.heap.size w W) => room_at (h.later hW) m (by omega) P ok hP)
  have HP := Lib.hid hP
  obtain ⟨G1, XP, E1⟩ := X
  obtain ⟨x1, x2, x3⟩ := XP
  unfold plV plC
  dsimp only
  clear hX hf hb hm hP h
  show Calls Tryz.prog 30 #[.pointer (some ⟨L, 0, none⟩), .agg #[.int .i64 r.kind, .int .i64 r.id, .string r.host, .string r.path, .int .i64 r.prio, .int .i64 r.till]] w _
  have EN2 : Hid (∀ W, Calls Tryz.prog 27 #[.agg #[.int .i64 r.kind, .int .i64 r.id, .string r.host, .string r.path, .int .i64 r.prio, .int .i64 r.till]] W fun e w' => ∃ a c k, e = .returned (.tuple #[.slice a m c, .int .i64 k]) ∧ Own w' W.heap.size 5 1 a m c (u8L b) ∧ Below W.heap.size W w' ∧ ((soundR r ∧ k = 0) ∨ (¬ soundR r ∧ k = 2))) := Lib.hid (fun W => EN.out W)
  clear EN
  go_enter Tryz.func30, Tryz.ntmps30
  go_upto_region 1 with fail
  refine code_forget (fun W => Hid (Box W w.heap.size #[.int .i64 r.kind, .int .i64 r.id, .string r.host, .string r.path, .int .i64 r.prio, .int .i64 r.till] 74) ∧ Hid (Box W (w.heap.size + 1) #[.int .i64 0, .int .i64 0, .int .i64 0] 76) ∧ Hid (Below w.heap.size w W)) ⟨Lib.hid ((Box.new w _ _).alloc _), Lib.hid (by have h9 := Box.new (w.alloc (.cells #[.int .i64 r.kind, .int .i64 r.id, .string r.host, .string r.path, .int .i64 r.prio, .int .i64 r.till] 74)) #[.int .i64 0, .int .i64 0, .int .i64 0] 76; rw [World.size_alloc] at h9; exact h9), Lib.hid (((Below.refl w.heap.size w).alloc (Nat.le_refl _) _).alloc (by simp) _)⟩ ?_
  obtain ⟨rb, hrb⟩ : ∃ p, w.heap.size = p := ⟨_, rfl⟩
  obtain ⟨zb, hzb⟩ : ∃ p, w.heap.size + 1 = p := ⟨_, rfl⟩
  have HRB := Lib.hid hrb
  have HZB := Lib.hid hzb
  rw [hzb, hrb]
  rintro w1 ⟨BR1, BZ1, B1⟩
  rw [← HRB.out] at B1
  clear hrb hzb
  have HNZ : Hid (¬ (RD zb ∨ RL zb)) := Lib.hid (G.out.not_own (by have := HZB.out; omega))
  have r0 := BR1.out.cell 0
  have r1 := BR1.out.cell 1
  have r2 := BR1.out.cell 2
  have r3 := BR1.out.cell 3
  have r4 := BR1.out.cell 4
  have r5 := BR1.out.cell 5
  go_wp2_with fail
  refine (EN2.out w1).mono ?_
  rintro e w2 ⟨a, c, k, rfl, ho, hb, hk⟩
  have B2 := Lib.hid (B1.out.trans (hb.mono B1.out.size))
  have BZ2 := Lib.hid (BZ1.out.later hb)
  have HO := Lib.hid ho
  have HS1 := Lib.hid B1.out.size
  clear ho hb r0 r1 r2 r3 r4 r5 EN2 BR1 BZ1 B1
  have NW := G.out.now.later B2.out
  have n0 : w2.cell? ⟨0, 0, none⟩ = some (.int .i64 9223372036854775807) := NW 0 (by decide)
  have n1 : w2.cell? ⟨0, 1, none⟩ = some (.int .i64 9223372036854775807) := NW 1 (by decide)
  have n2 : w2.cell? ⟨0, 2, none⟩ = some (.int .i64 0) := NW 2 (by decide)
  clear NW
  rcases hk with ⟨hk1, rfl⟩ | ⟨hk1, rfl⟩
  · have HSO := Lib.hid hk1
    have HEB : Hid (encR r = b) := Lib.hid (by rw [← HB.out, encO_sound hk1])
    have RM2 := Lib.hid (RM.out w2 B2.out)
    clear hk1 n0 n1 n2 RM
    obtain ⟨p1, p2, p3⟩ := P
    unfold plV plC at RM2
    dsimp only at RM2
    go_wp2_with fail
    refine RM2.out.mono ?_
    rintro e w3 ⟨rfl, hb⟩
    have B3 := Lib.hid (B2.out.trans (hb.mono B2.out.size))
    have BZ3 := Lib.hid (BZ2.out.later hb)
    have HO3 := Lib.hid (HO.out.later hb)
    have HS3 : Hid (zb < w3.heap.size) := Lib.hid BZ3.out.lt
    clear RM2 hb BZ2 B2 HO
    go_upto_region 5 with fail
    refine code_forget (fun W => Hid (Box W w3.heap.size #[.int .i64 p1, .int .i64 p2, .int .i64 p3] 76) ∧ Hid (Below w3.heap.size w3 W)) ⟨Lib.hid (Box.new w3 _ _), Lib.hid ((Below.refl w3.heap.size w3).alloc (Nat.le_refl _) _)⟩ ?_
    obtain ⟨pb, hpb⟩ : ∃ p, w3.heap.size = p := ⟨_, rfl⟩
    have HPB := Lib.hid hpb
    rw [hpb]
    rintro w4 ⟨BP4, hb4⟩
    rw [← HPB.out] at hb4
    have B4 := Lib.hid (B3.out.trans (hb4.out.mono B3.out.size))
    have BZ4 := Lib.hid (BZ3.out.later hb4.out)
    have HO4 := Lib.hid (HO3.out.later hb4.out)
    have HNP : Hid (¬ (RD pb ∨ RL pb)) := Lib.hid (G.out.not_own (by have := HPB.out; have := B3.out.size; omega))
    have HPZ : Hid (pb ≠ zb) := Lib.hid (by have := HPB.out; have := HS3.out; omega)
    clear hb4 hpb HS3 B3 BZ3 HO3
    cases ok with
    | false =>
      have HXX : Hid ((G1, (⟨x1, x2, x3⟩ : Pl), E1) = ((compactL g).1, nowh, (compactL g).2)) := Lib.hid (by rw [HX.out, note_full HSO.out (by rw [HEB.out, HM.out, HP.out])])
      have CP2 := Lib.hid (CP.out w4.drew (B4.out.trans ((Below.refl _ _).drew.mono B4.out.size)))
      clear HX CP
      go_upto_region 6 with fail
      refine wp_region_last 4 (fun w' => NowM w' ∧ ∃ cs : Array Value, Box w' zb cs 76 ∧ cs.size = 3) (by kernel_rfl) (⟨(G.out.later B4.out).now.later (Below.refl _ _).drew, _, BZ4.out.drew, rfl⟩) (fun hHeld hClosed => ?_)
      refine wpAnyL_take (i := 0) (v := ?_) rfl (by kernel_rfl) (by kernel_rfl) (by kernel_rfl) (by kernel_rfl) (fun _ _ _ h => h) (by kernel_rfl) hClosed (Or.inl ⟨by rfl, ?_⟩) hHeld (fun hClosed => ?_)
      rotate_left
      · intro wv hSw; have n0 : wv.cell? ⟨0, 0, none⟩ = some (.int .i64 9223372036854775807) := hSw.1 0 (by decide); have n1 : wv.cell? ⟨0, 1, none⟩ = some (.int .i64 9223372036854775807) := hSw.1 1 (by decide); have n2 : wv.cell? ⟨0, 2, none⟩ = some (.int .i64 0) := hSw.1 2 (by decide); go_simp; all_goals (with_reducible rfl)
      (try simp only [List.getElem_toArray, List.getElem_cons_zero, put_at, List.set])
      refine wpAnyL_take (i := 1) (v := ?_) rfl (by kernel_rfl) (by kernel_rfl) (by kernel_rfl) (by kernel_rfl) (fun _ _ _ h => h) (by kernel_rfl) hClosed (Or.inl ⟨by rfl, ?_⟩) hHeld (fun hClosed => ?_)
      rotate_left
      · intro wv hSw; go_simp; all_goals (with_reducible rfl)
      (try simp only [List.getElem_toArray, List.getElem_cons_succ, List.getElem_cons_zero, put_at, List.set])
      refine wpAnyL_one (i := 2) rfl (by kernel_rfl) (by kernel_rfl) hClosed (fun KK hK => ?_)
      go_simp
      refine CP2.out.mono ?_
      rintro e w5 ⟨rfl, hc⟩
      go_wp2_with fail
      refine hK.out _ _ ?_ (fun hClosed hHeld => ?_)
      · obtain ⟨z1, cs9, z2, z3⟩ := hHeld; exact ⟨hc.1.now, cs9, hc.1.box z2 HNZ.out, z3⟩
      clear hK KK
      (first | simp only [List.getElem_toArray, List.getElem_cons_succ, List.getElem_cons_zero, put_at, List.set] | (try simp only [put_at, List.set]))
      refine wpAnyL_one (i := 3) rfl (by kernel_rfl) (by kernel_rfl) hClosed (fun KK hK => ?_)
      obtain ⟨z1, cs9, z2, z3⟩ := hHeld
      refine step_store_row rfl rfl rfl rfl z2 (by rw [z3]; rfl) (by kernel_rfl) (by simp [Value.oneCell']) ?_
      have FIN := Lib.hid (z2.setRow #[.int .i64 9223372036854775807, .int .i64 9223372036854775807, .int .i64 0])
      have FB : Hid (CmP w RD RL d L K (compactL g).1 (w5.setRow zb #[.int .i64 9223372036854775807, .int .i64 9223372036854775807, .int .i64 0])) := Lib.hid ⟨AftL.over (B4.out.trans ((Below.refl _ _).drew.mono B4.out.size)) hc.1 HNZ.out BZ4.out.drew.lt (by have := HZB.out; omega) G.out.now.lt _, hc.2⟩
      refine hK.out _ _ ?_ (fun hClosed hHeld => ?_)
      · exact ⟨FB.out.1.now, _, FIN.out, rfl⟩
      clear hK KK
      (first | simp only [List.getElem_toArray, List.getElem_cons_succ, List.getElem_cons_zero, put_at, List.set] | (try simp only [put_at, List.set]))
      refine wpAnyL_last rfl (by kernel_rfl) (by kernel_rfl) (fun KK hK => ?_)
      go_simp
      refine hK.out _ _ ?_
      (try simp only [put_at, List.set])
      clear hHeld hClosed hc CP2 BZ4 BP4 B4
      go_wp2_with fail
      refine bodyPost_ret (results_cell_tmp Tryz.results30 rfl (pl_row FIN.out rfl)) rfl ?_
      have h9 := HXX.out
      injection h9 with e1 e2
      injection e2 with e2 e3
      injection e2 with e4 e5 e6
      subst e1 e3 e4 e5 e6
      exact ⟨rfl, FB.out⟩
    | true =>
      have HW := Lib.hid (room_ok G.out (by omega) HP.out)
      have l0 := 1
      clear l0 CP
      have HXX := Lib.hid (HX.out.trans (note_yes HSO.out (by rw [HEB.out, HM.out, HP.out])))
      rw [HEB.out, HM.out, HP.out] at HXX
      dsimp only at HXX
      have HB0 : 0 < b.length := by rw [← HEB.out]; have := encR_ge r; omega
      have WR := Lib.hid (write_at (G.out.later B4.out) ⟨p1, p2, p3⟩ HW.out.2 HW.out.1.seg b HBY.out HB0 m HM.out (by omega) a c (rdC_of_own HO4.out (by decide)) (fun g9 off e => by
        rcases HO4.out.form with ⟨h1, _⟩ | ⟨g8, h1, h2, _⟩
        · rw [h1] at e; cases e
        · rw [h1] at e
          cases e
          exact fun e => G.out.not_own (Nat.le_trans HS1.out h2) (Or.inl e)))
      unfold plV plC at WR
      dsimp only at WR
      obtain ⟨⟨D2, e2⟩, hD2⟩ : ∃ Y, writeD g.D p1 b = Y := ⟨_, rfl⟩
      rw [hD2] at WR HXX
      dsimp only at WR HXX
      clear HX hD2 HW HB0 HO4
      have c0 := BP4.out.cell 0
      have c1 := BP4.out.cell 1
      have c2 := BP4.out.cell 2
      go_wp2_with fail
      refine WR.out.mono ?_
      rintro e w5 ⟨rfl, ha⟩
      have A5 : Hid (∀ cs, AftL RD RL d L w ⟨D2, g.n, g.x⟩ (w5.setRow zb cs)) := Lib.hid (fun cs => AftL.over B4.out ha HNZ.out BZ4.out.lt (by have := HZB.out; omega) G.out.now.lt cs)
      have BZ5 := Lib.hid (ha.box BZ4.out HNZ.out)
      have BP5 := Lib.hid (ha.box BP4.out HNP.out)
      have NW5 := ha.now
      clear ha WR c0 c1 c2 BZ4 BP4 B4
      by_cases hz : e2 = 0
      · have dz : (e2 != 0) = false := by simp [hz]
        have HE : Hid ((G1, (⟨x1, x2, x3⟩ : Pl), E1) = ((⟨D2, g.n, g.x⟩ : Lg), (⟨p1, p2, p3⟩ : Pl), (0 : Int))) := Lib.hid (by have h9 := HXX.out; rw [if_pos hz, hz] at h9; exact h9)
        clear hz HXX NW5
        have c0 := BP5.out.cell 0
        have c1 := BP5.out.cell 1
        have c2 := BP5.out.cell 2
        have FIN := Lib.hid (BZ5.out.setRow #[.int .i64 p1, .int .i64 p2, .int .i64 p3])
        have FB : Hid (CmP w RD RL d L K ⟨D2, g.n, g.x⟩ (w5.setRow zb #[.int .i64 p1, .int .i64 p2, .int .i64 p3])) := Lib.hid ⟨A5.out _, HFK.out⟩
        clear A5
        go_upto_region 10 with fail
        go_wp2_with (refine wpList_storeRow rfl rfl rfl rfl BZ5.out rfl (by kernel_rfl) (by simp [Value.oneCell']) ?_)
        refine bodyPost_ret (results_cell_tmp Tryz.results30 rfl (pl_row FIN.out rfl)) rfl ?_
        have h9 := HE.out
        injection h9 with e1 e2
        injection e2 with e2 e3
        injection e2 with e4 e5 e6
        subst e1 e3 e4 e5 e6
        exact ⟨rfl, FB.out⟩
      · have dz : (e2 != 0) = true := by simp [hz]
        have HE : Hid ((G1, (⟨x1, x2, x3⟩ : Pl), E1) = ((⟨D2, g.n, g.x⟩ : Lg), nowh, e2)) := Lib.hid (by have h9 := HXX.out; rw [if_neg hz] at h9; exact h9)
        clear hz HXX
        have n0 : w5.cell? ⟨0, 0, none⟩ = some (.int .i64 9223372036854775807) := NW5 0 (by decide)
        have n1 : w5.cell? ⟨0, 1, none⟩ = some (.int .i64 9223372036854775807) := NW5 1 (by decide)
        have n2 : w5.cell? ⟨0, 2, none⟩ = some (.int .i64 0) := NW5 2 (by decide)
        clear NW5
        have FIN := Lib.hid (BZ5.out.setRow #[.int .i64 9223372036854775807, .int .i64 9223372036854775807, .int .i64 0])
        have FB : Hid (CmP w RD RL d L K ⟨D2, g.n, g.x⟩ (w5.setRow zb #[.int .i64 9223372036854775807, .int .i64 9223372036854775807, .int .i64 0])) := Lib.hid ⟨A5.out _, HFK.out⟩
        clear A5
        go_upto_region 9 with fail
        go_wp2_with (refine wpList_storeRow rfl rfl rfl rfl BZ5.out rfl (by kernel_rfl) (by simp [Value.oneCell']) ?_)
        refine bodyPost_ret (results_cell_tmp Tryz.results30 rfl (pl_row FIN.out rfl)) rfl ?_
        have h9 := HE.out
        injection h9 with e1 e2
        injection e2 with e2 e3
        injection e2 with e4 e5 e6
        subst e1 e3 e4 e5 e6
        exact ⟨rfl, FB.out⟩
  · have HE : Hid ((G1, (⟨x1, x2, x3⟩ : Pl), E1) = (g, nowh, 2)) := Lib.hid (by rw [HX.out, note_no hk1])
    have FIN := Lib.hid (BZ2.out.setRow #[.int .i64 9223372036854775807, .int .i64 9223372036854775807, .int .i64 0])
    have FB : Hid (CmP w RD RL d L K g (w2.setRow zb #[.int .i64 9223372036854775807, .int .i64 9223372036854775807, .int .i64 0])) := Lib.hid ⟨AftL.over B2.out (AftL.refl (G.out.later B2.out) (Below.refl _ _)) HNZ.out BZ2.out.lt (by have := HZB.out; omega) G.out.now.lt _, HFK.out⟩
    clear HX hk1 RM CP
    go_upto_region 3 with fail
    go_wp2_with (refine wpList_storeRow rfl rfl rfl rfl BZ2.out rfl (by kernel_rfl) (by simp [Value.oneCell']) ?_)
    refine bodyPost_ret (results_cell_tmp Tryz.results30 rfl (pl_row FIN.out rfl)) rfl ?_
    have h9 := HE.out
    injection h9 with e1 e2
    injection e2 with e2 e3
    injection e2 with e4 e5 e6
    subst e1 e3 e4 e5 e6
    exact ⟨rfl, FB.out⟩
end Go.Proofs.YteinblpkcpjpnaaGreatDoor
/- Package spill: Done. -/
namespace Go.Proofs.YteinblpkcpjpnaaGreatDoor
open Go Go.RowKit Go.Maps
set_option linter.unusedVariables false
set_option linter.unusedSimpArgs false
set_option maxRecDepth 100000

section
variable {w w' : World} {RD RL : Nat → Prop} {d L K : Nat} {g g1 : Lg}
theorem LgM.puts {pm : Nat} {wm : Option Nat} (h : LgM w RD RL d L g) (hi : IxM w 0 L 2 (logC d g.n pm wm g.x.top) 70 pm wm g.x) (hm : ∀ k, MineI L pm wm k → RL k) {S : List (Int × Pl)} (ht : w.mapTurned w' pm) (hS : PtM w' pm S) (ho : IxOk { g.x with puts := S }) : AftL RD RL d L w ⟨g.D, g.n, { g.x with puts := S }⟩ w' :=
  h.index (LxM.turned hi hm ⟨wm, _, hi.turned ht hS, fun _ _ _ => rfl, Only.of_grown ht.grown (fun k e => Or.inr (Or.inl (Option.some.inj e).symm)), Or.inl rfl⟩ ho)
theorem LgM.topset {pm : Nat} {wm : Option Nat} (h : LgM w RD RL d L g) (hi : IxM w 0 L 2 (logC d g.n pm wm g.x.top) 70 pm wm g.x) (hm : ∀ k, MineI L pm wm k → RL k) (v : Int) (ho : IxOk { g.x with top := v }) : AftL RD RL d L w ⟨g.D, g.n, { g.x with top := v }⟩ (w.setCell ⟨L, 4, none⟩ (.int .i64 v)) :=
  h.index (LxM.turned hi hm ⟨wm, _, hi.top_ v, fun i _ h2 => set_ne h2, (Only.refl _ w).setCell (Or.inl (Or.inl rfl)) _, Or.inl rfl⟩ ho)
theorem AftL.step {w1 : World} (h : AftL RD RL d L w g w1) (k : ∀ R1 R2, LgM w1 R1 R2 d L g → AftL R1 R2 d L w1 g1 w') : AftL RD RL d L w g1 w' := by
  obtain ⟨R1, R2, a⟩ := h
  exact AftL.trans a (k R1 R2 a.lg)
end
theorem done_no {g : Lg} {id : Int} (h : (gA g.x.puts id).isSome = false) : doneL g id = (g, 4) := by unfold doneL; rw [h, if_neg (by decide)]
theorem done_yes {g : Lg} {id : Int} (h : (gA g.x.puts id).isSome = true) : doneL g id = ((noteL ⟨g.D, g.n, { g.x with puts := dA g.x.puts id }⟩ ⟨2, id, ⟨#[]⟩, ⟨#[]⟩, 0, 0⟩).1, (noteL ⟨g.D, g.n, { g.x with puts := dA g.x.puts id }⟩ ⟨2, id, ⟨#[]⟩, ⟨#[]⟩, 0, 0⟩).2.2) := by unfold doneL; rw [if_pos h]
theorem done_at {w : World} {RD RL : Nat → Prop} {d L : Nat} {g : Lg} (h : LgM w RD RL d L g) (id : Int) (hid : okI id) {K : Nat} (hf : FewK K g.x) (hK1 : 32768 ≤ K) (hK2 : K ≤ 900000) (hgn : g.n ≤ 1000) (X : Lg × Int) (hX : doneL g id = X) :
    Calls Tryz.prog 14 #[.pointer (some ⟨L, 0, none⟩), .int .i64 id] w fun e w' => e = .returned (.int .i64 X.2) ∧ CmP w RD RL d L K X.1 w' := by
  obtain ⟨pm, wm, hi, hmi⟩ := h.lx.ix
  obtain ⟨q, hq⟩ : ∃ q, (gA g.x.puts id).isSome = q := ⟨_, rfl⟩
  have hpk := atI_ok h.lx.ok id
  obtain ⟨p, hp⟩ : ∃ p, atI g.x id = p := ⟨_, rfl⟩
  have lk : (Instr.lookup 63 (.map (some pm)) (.int .i64 id) true).run Tryz.prog w = .ok (.tuple #[plV p, .bool q]) w := by
    rw [hi.puts.look_ok tyP id hid, getD_map, hq, ← hp]
    rfl
  have c2 : w.cell? ⟨L, 2, none⟩ = some (.map (some pm)) := hi.box.cell 2
  have G := Lib.hid h
  have HFK := Lib.hid hf
  have HI := Lib.hid hi
  have HMI := Lib.hid hmi
  have HX := Lib.hid hX.symm
  obtain ⟨G1, E1⟩ := X
  dsimp only
  obtain ⟨p1, p2, p3⟩ := p
  unfold plV plC at lk
  dsimp only at lk
  have PO : Hid (IxOk { g.x with puts := dA g.x.puts id }) := Lib.hid (h.lx.ok.del id)
  have HID := Lib.hid hid
  cases q with
  | false =>
    have HE : Hid ((G1, E1) = (g, (4 : Int))) := Lib.hid (by rw [HX.out, done_no hq])
    clear hX hq hp hpk hi hmi hf h HX hid
    go_enter Tryz.func14, Tryz.ntmps14
    go_wp2_with fail
    go_ret
    have h9 := HE.out
    injection h9 with e1 e2
    subst e1 e2
    exact ⟨rfl, AftL.refl G.out ((Below.refl w.heap.size w).alloc (Nat.le_refl _) _), HFK.out⟩
  | true =>
    obtain ⟨Y, hY⟩ : ∃ Y, noteL ⟨g.D, g.n, { g.x with puts := dA g.x.puts id }⟩ ⟨2, id, ⟨#[]⟩, ⟨#[]⟩, 0, 0⟩ = Y := ⟨_, rfl⟩
    have HE : Hid ((G1, E1) = (Y.1, Y.2.2)) := Lib.hid (by rw [HX.out, done_yes hq, hY])
    have NT : Hid (∀ (W : World) (R1 R2 : Nat → Prop), LgM W R1 R2 d L ⟨g.D, g.n, { g.x with puts := dA g.x.puts id }⟩ → Calls Tryz.prog 30 #[.pointer (some ⟨L, 0, none⟩), .agg #[.int .i64 2, .int .i64 id, .string ⟨#[]⟩, .string ⟨#[]⟩, .int .i64 0, .int .i64 0]] W fun e w' => e = .returned (.tuple #[plV Y.2.1, .int .i64 Y.2.2]) ∧ CmP W R1 R2 d L K Y.1 w') := Lib.hid (fun W R1 R2 hW => note_at hW ⟨2, id, ⟨#[]⟩, ⟨#[]⟩, 0, 0⟩ (K := K) ⟨Nat.le_trans (len_dA _ _) HFK.out.1, HFK.out.2⟩ hK1 hK2 hgn Y hY)
    obtain ⟨YG, ⟨y1, y2, y3⟩, YE⟩ := Y
    unfold plV plC at NT
    dsimp only at NT HE
    clear hX hq hp hpk hi hmi hf h HX hY hid
    go_enter Tryz.func14, Tryz.ntmps14
    go_upto_region 6 with fail
    refine code_forget (fun W => Hid (Below w.heap.size w W)) (Lib.hid ((Below.refl w.heap.size w).alloc (Nat.le_refl _) _)) ?_
    rintro w1 B1
    have I1 := Lib.hid (HI.out.later B1.out)
    have c2' : w1.cell? ⟨L, 2, none⟩ = some (.map (some pm)) := I1.out.box.cell 2
    obtain ⟨w5, dl, hm5, ht5⟩ := I1.out.puts.drop tyP id HID.out 0
    have A5 := Lib.hid ((G.out.later B1.out).puts I1.out HMI.out ht5 hm5 PO.out)
    clear hm5 ht5 c2 lk I1
    obtain ⟨R1, R2, A6⟩ := A5.out
    have NT2 := Lib.hid (NT.out w5 R1 R2 A6.lg)
    have AA := Lib.hid A6
    clear NT A5 A6
    go_wp2_with fail
    refine NT2.out.mono ?_
    rintro e w6 ⟨rfl, hc⟩
    have FIN : Hid (CmP w RD RL d L K YG w6) := Lib.hid ⟨AftL.before B1.out (AftL.trans AA.out hc.1), hc.2⟩
    clear hc AA NT2 B1
    go_wp2_with fail
    go_ret
    have h9 := HE.out
    injection h9 with e1 e2
    subst e1 e2
    exact ⟨rfl, FIN.out.later ((Below.refl w6.heap.size w6).alloc (Nat.le_refl _) _)⟩
end Go.Proofs.YteinblpkcpjpnaaGreatDoor
/- Package spill: Put. Written by gen_put.py. -/
namespace Go.Proofs.YteinblpkcpjpnaaGreatDoor
open Go Go.RowKit Go.Maps
set_option linter.unusedVariables false
set_option linter.unusedSimpArgs false
set_option maxRecDepth 100000

/-- What Put does once room was asked for. -/
def putTail (g1 : Lg) (r : Rc) (ec : Int) (ok : Bool) (P : Pl) : Lg × Int :=
  if ec = 0 then (if ok = true then putAt (topped g1 r.id) r P else (topped g1 r.id, 5)) else (topped g1 r.id, ec)
theorem put_no {g : Lg} {r : Rc} (h : ¬ soundR r) : putL g r = (g, 2) := by unfold putL; rw [if_neg h]
theorem put_yes {g : Lg} {r : Rc} {P : Pl} (h : soundR r) (hr : roomL g.D g.n (encR r).length = (P, true)) : putL g r = putTail g r 0 true P := by
  unfold putL putTail; rw [if_pos h, hr, if_pos rfl, if_pos rfl, if_pos rfl]
theorem put_full {g : Lg} {r : Rc} (h : soundR r) (hr : (roomL g.D g.n (encR r).length).2 = false) : putL g r = putTail (compactL g).1 r (compactL g).2 (roomL (compactL g).1.D (compactL g).1.n (encR r).length).2 (roomL (compactL g).1.D (compactL g).1.n (encR r).length).1 := by
  unfold putL putTail; rw [if_pos h, hr, if_neg (by decide)]
theorem few_top {K : Nat} {g : Lg} {id : Int} (h : FewK K g.x) : FewK K (topped g id).x := h
theorem few_mono {K M : Nat} {x : Ix} (h : FewK K x) (hm : K ≤ M) : FewK M x := ⟨Nat.le_trans h.1 hm, Nat.le_trans h.2 hm⟩
theorem few_put {K : Nat} {x : Ix} (h : FewK K x) (id : Int) (p : Pl) : FewK (K + 1) { x with puts := pA x.puts id p } := ⟨by show (pA _ _ _).length ≤ _; have := h.1; rw [len_pA]; split <;> omega, Nat.le_trans h.2 (Nat.le_succ _)⟩
theorem pl_pair {a : Pl × Bool} {p : Pl} {b : Bool} (h : a = (p, b)) : a.1 = p ∧ a.2 = b := by rw [h]; exact ⟨rfl, rfl⟩
/-- Put under way: the log, the place's box, the request's box, the record's bytes. -/
structure PutS (w : World) (RD RL : Nat → Prop) (d L pb rb B1 m c : Nat) (a : Option Addr) (b : List Int) (r : Rc) (P1 : Pl) (g1 : Lg) (R1 R2 : Nat → Prop) (wc : World) : Prop where
  aft : AftG RD RL d L w g1 wc R1 R2
  bp : Box wc pb #[.int .i64 P1.seg, .int .i64 P1.off, .int .i64 P1.size] 76
  br : Box wc rb #[.int .i64 r.id, .string r.host, .string r.path, .int .i64 r.prio, .int .i64 r.till] 31
  own : Own wc B1 5 1 a m c (u8L b)
  off : ∀ z, (z = pb ∨ z = rb ∨ a = some ⟨z, 0, none⟩) → ¬ (R1 z ∨ R2 z) ∧ w.heap.size ≤ z
  hpr : pb ≠ rb
  hpa : ∀ z, a = some ⟨z, 0, none⟩ → z ≠ pb
section
variable {w wc w' : World} {RD RL R1 R2 R3 R4 : Nat → Prop} {d L pb rb B1 m c : Nat} {a : Option Addr} {b : List Int} {r : Rc} {P1 : Pl} {g1 g2 : Lg}
theorem PutS.lt (h : PutS w RD RL d L pb rb B1 m c a b r P1 g1 R1 R2 wc) {z : Nat} (hz : z = pb ∨ z = rb ∨ a = some ⟨z, 0, none⟩) : z < wc.heap.size := by
  rcases hz with rfl | rfl | hz
  · exact h.bp.lt
  · exact h.br.lt
  · have h9 := h.own; rw [hz] at h9; exact h9.lt.2
theorem PutS.later (h : PutS w RD RL d L pb rb B1 m c a b r P1 g1 R1 R2 wc) (hb : Below wc.heap.size wc w') : PutS w RD RL d L pb rb B1 m c a b r P1 g1 R1 R2 w' :=
  ⟨h.aft.later hb, h.bp.later hb, h.br.later hb, h.own.later hb, h.off, h.hpr, h.hpa⟩
theorem PutS.step (h : PutS w RD RL d L pb rb B1 m c a b r P1 g1 R1 R2 wc) (k : AftG R1 R2 d L wc g2 w' R3 R4) : PutS w RD RL d L pb rb B1 m c a b r P1 g2 R3 R4 w' :=
  ⟨h.aft.step k, h.bp.only k.only (h.off pb (Or.inl rfl)).1, h.br.only k.only (h.off rb (Or.inr (Or.inl rfl))).1, h.own.only k.only (fun z hz => (h.off z (Or.inr (Or.inr hz))).1), fun z hz => ⟨fun e => by
    have h1 := h.lt hz
    have h2 := (h.off z hz).1
    rcases e with e | e
    · rcases k.newD z e with e | e
      · exact h2 (Or.inl e)
      · omega
    · rcases k.newL z e with e | e
      · exact h2 (Or.inr e)
      · omega, (h.off z hz).2⟩, h.hpr, h.hpa⟩
theorem PutS.stepL (h : PutS w RD RL d L pb rb B1 m c a b r P1 g1 R1 R2 wc) (k : AftL R1 R2 d L wc g2 w') : ∃ R3 R4, PutS w RD RL d L pb rb B1 m c a b r P1 g2 R3 R4 w' := by
  obtain ⟨R3, R4, k⟩ := k
  exact ⟨R3, R4, h.step k⟩
theorem PutS.place (h : PutS w RD RL d L pb rb B1 m c a b r P1 g1 R1 R2 wc) (hN : gNow < w.heap.size) (P2 : Pl) : PutS w RD RL d L pb rb B1 m c a b r P2 g1 R1 R2 (wc.setRow pb #[.int .i64 P2.seg, .int .i64 P2.off, .int .i64 P2.size]) :=
  ⟨h.aft.over (B := 0) ⟨fun e => (h.off pb (Or.inl rfl)).1 (Or.inl e), fun e => (h.off pb (Or.inl rfl)).1 (Or.inr e), Nat.zero_le _⟩ (h.off pb (Or.inl rfl)).2 hN _, h.bp.setRow _, h.br.otherRow h.hpr.symm _, h.own.blocks (fun z hz => setRow_other _ _ _ _ (fun e => h.hpa z hz (by omega))), h.off, h.hpr, h.hpa⟩
end
set_option maxHeartbeats 4000000 in
theorem put_at_ {w : World} {RD RL : Nat → Prop} {d L : Nat} {g : Lg} (h : LgM w RD RL d L g) (r : Rc) (hk : r.kind = 1) (hid : okI r.id) {K : Nat} (hf : FewK K g.x) (hK1 : 32768 ≤ K) (hK2 : K ≤ 900000) (hgn : g.n ≤ 1000) (X : Lg × Int) (hX : putL g r = X) :
    Calls Tryz.prog 13 #[.pointer (some ⟨L, 0, none⟩), .agg (reqL r).toArray] w fun e w' => e = .returned (.int .i64 X.2) ∧ CmP w RD RL d L (K + 1) X.1 w' := by
  have EN := Lib.hid (fun (W : World) => kenc_at r W)
  have HX := Lib.hid hX.symm
  have HID := Lib.hid hid
  have G := Lib.hid h
  have CP := Lib.hid (fun (W : World) (hW : Below w.heap.size w W) => compact_at (h.later hW) hf hK1 hK2 hgn)
  have HFK := Lib.hid hf
  have HBY := Lib.hid (encO_byts r)
  have HLE := encO_len r
  obtain ⟨b, hb⟩ : ∃ b, encO r = b := ⟨_, rfl⟩
  have HB := Lib.hid hb
  rw [hb] at EN HBY HLE
  obtain ⟨m, hm⟩ : ∃ m, b.length = m := ⟨_, rfl⟩
  have HM := Lib.hid hm
  rw [hm] at EN HLE
  obtain ⟨⟨P, ok⟩, hP⟩ : ∃ Q, roomL g.D g.n m = Q := ⟨_, rfl⟩
  have RM := Lib.hid (fun (W : World) (hW : Below w.heap.size w W) => room_at (h.later hW) m (by omega) P ok hP)
  have HP := Lib.hid hP
  obtain ⟨G1, E1⟩ := X
  dsimp only
  show Calls Tryz.prog 13 #[.pointer (some ⟨L, 0, none⟩), .agg #[.int .i64 r.id, .string r.host, .string r.path, .int .i64 r.prio, .int .i64 r.till]] w _
  have EN2 : Hid (∀ W, Calls Tryz.prog 27 #[.agg #[.int .i64 1, .int .i64 r.id, .string r.host, .string r.path, .int .i64 r.prio, .int .i64 r.till]] W fun e w' => ∃ a c k, e = .returned (.tuple #[.slice a m c, .int .i64 k]) ∧ Own w' W.heap.size 5 1 a m c (u8L b) ∧ Below W.heap.size W w' ∧ ((soundR r ∧ k = 0) ∨ (¬ soundR r ∧ k = 2))) := Lib.hid (fun W => by
    have h9 := EN.out W
    unfold recL reqL at h9
    rw [hk] at h9
    exact h9)
  clear EN hX hf hb hm hP h hk hid
  go_enter Tryz.func13, Tryz.ntmps13
  go_upto_region 1 with fail
  refine code_forget (fun W => Hid (Box W w.heap.size #[.int .i64 r.id, .string r.host, .string r.path, .int .i64 r.prio, .int .i64 r.till] 31) ∧ Hid (Below w.heap.size w W)) ⟨Lib.hid (Box.new w _ _), Lib.hid ((Below.refl w.heap.size w).alloc (Nat.le_refl _) _)⟩ ?_
  obtain ⟨rb, hrb⟩ : ∃ p, w.heap.size = p := ⟨_, rfl⟩
  have HRB := Lib.hid hrb
  rw [hrb]
  rintro w1 ⟨BR1, B1⟩
  rw [← HRB.out] at B1
  clear hrb
  have HNR : Hid (¬ (RD rb ∨ RL rb)) := Lib.hid (G.out.not_own (by have := HRB.out; omega))
  have r0 := BR1.out.cell 0
  have r1 := BR1.out.cell 1
  have r2 := BR1.out.cell 2
  have r3 := BR1.out.cell 3
  have r4 := BR1.out.cell 4
  go_wp2_with fail
  refine (EN2.out w1).mono ?_
  rintro e w2 ⟨a, c, k, rfl, ho, hb, hk⟩
  have B2 := Lib.hid (B1.out.trans (hb.mono B1.out.size))
  have BR2 := Lib.hid (BR1.out.later hb)
  have HO := Lib.hid ho
  have HS1 := Lib.hid B1.out.size
  clear ho hb r0 r1 r2 r3 r4 EN2 BR1 B1
  rcases hk with ⟨hk1, rfl⟩ | ⟨hk1, rfl⟩
  · have HSO := Lib.hid hk1
    have HEB : Hid (encR r = b) := Lib.hid (by rw [← HB.out, encO_sound hk1])
    have RM2 := Lib.hid (RM.out w2 B2.out)
    clear hk1 RM
    obtain ⟨p1, p2, p3⟩ := P
    unfold plV plC at RM2
    dsimp only at RM2
    go_wp2_with fail
    refine RM2.out.mono ?_
    rintro e w3 ⟨rfl, hb⟩
    have B3 := Lib.hid (B2.out.trans (hb.mono B2.out.size))
    have BR3 := Lib.hid (BR2.out.later hb)
    have HO3 := Lib.hid (HO.out.later hb)
    have HS3 : Hid (rb < w3.heap.size) := Lib.hid BR3.out.lt
    clear RM2 hb BR2 B2 HO
    go_upto_region 7 with fail
    refine code_forget (fun W => Hid (Box W w3.heap.size #[.int .i64 p1, .int .i64 p2, .int .i64 p3] 76) ∧ Hid (Below w3.heap.size w3 W)) ⟨Lib.hid (Box.new w3 _ _), Lib.hid ((Below.refl w3.heap.size w3).alloc (Nat.le_refl _) _)⟩ ?_
    obtain ⟨pb, hpb⟩ : ∃ p, w3.heap.size = p := ⟨_, rfl⟩
    have HPB := Lib.hid hpb
    rw [hpb]
    rintro w4 ⟨BP4, hb4⟩
    rw [← HPB.out] at hb4
    have B4 := Lib.hid (B3.out.trans (hb4.out.mono B3.out.size))
    have BR4 := Lib.hid (BR3.out.later hb4.out)
    have HO4 := Lib.hid (HO3.out.later hb4.out)
    have S4 : Hid (PutS w RD RL d L pb rb w1.heap.size m c a b r ⟨p1, p2, p3⟩ g RD RL w4) := Lib.hid ⟨⟨G.out.later B4.out, Only.of_below _ B4.out, fun k hk => Or.inl hk, fun k hk => Or.inl hk⟩, BP4.out, BR4.out, HO4.out, fun z hz => by
      have hzz : w.heap.size ≤ z := by
        rcases hz with rfl | rfl | hz
        · have := HPB.out; have := B3.out.size; omega
        · have := HRB.out; omega
        · rcases HO4.out.form with ⟨h1, _⟩ | ⟨g8, h1, h2, h3⟩
          · rw [h1] at hz; cases hz
          · rw [h1] at hz
            cases hz
            exact Nat.le_trans HS1.out h2
      exact ⟨G.out.not_own hzz, hzz⟩, by have := HPB.out; have := HS3.out; omega, fun z hz => by
      rcases HO3.out.form with ⟨h1, _⟩ | ⟨g8, h1, h2, h3⟩
      · rw [h1] at hz; cases hz
      · rw [h1] at hz
        cases hz
        have := HPB.out; omega⟩
    clear hb4 hpb HS3 B3 BR3 HO3 BP4 BR4 HO4
    go_upto_if 29 with fail
    go_cut [6, 8] (fun u v wc => ∃ (g1 : Lg) (ec : Int) (ok1 : Bool) (P1 : Pl) (R1 R2 : Nat → Prop), u = .int .i64 ec ∧ v = .bool ok1 ∧ Hid (PutS w RD RL d L pb rb w1.heap.size m c a b r P1 g1 R1 R2 wc) ∧ Hid (FewK K g1.x) ∧ Hid (ok1 = true → PlOk P1 ∧ 0 ≤ P1.seg) ∧ Hid ((G1, E1) = putTail g1 r ec ok1 P1))
    case first =>
      cases ok with
      | true =>
        have HE : Hid ((G1, E1) = putTail g r 0 true ⟨p1, p2, p3⟩) := Lib.hid (by rw [HX.out]; exact put_yes HSO.out (by rw [HEB.out, HM.out, HP.out]))
        have HPO := Lib.hid (room_ok G.out (size := m) (by omega) HP.out)
        clear HX CP HP HM
        go_wp2_with fail
        go_meet
        exact ⟨g, 0, true, ⟨p1, p2, p3⟩, RD, RL, rfl, rfl, S4, HFK, Lib.hid (fun _ => HPO.out), HE⟩
      | false =>
        obtain ⟨⟨P2, ok2⟩, hP2⟩ : ∃ Q, roomL (compactL g).1.D (compactL g).1.n m = Q := ⟨_, rfl⟩
        have HE : Hid ((G1, E1) = putTail (compactL g).1 r (compactL g).2 ok2 P2) := Lib.hid (by rw [HX.out, put_full HSO.out (by rw [HEB.out, HM.out, HP.out]), HEB.out, HM.out, hP2])
        have HP2 := Lib.hid hP2
        have CP2 := Lib.hid (CP.out w4 B4.out)
        have GN : Hid (gNow < w.heap.size) := Lib.hid G.out.now.lt
        obtain ⟨⟨gc, ec⟩, hgc⟩ : ∃ Y, compactL g = Y := ⟨_, rfl⟩
        rw [hgc] at CP2 HE HP2
        dsimp only at CP2 HE HP2
        clear HX CP HP hP2 hgc
        go_wp2_with fail
        refine CP2.out.mono ?_
        rintro e w5 ⟨rfl, hc⟩
        have HFK5 := Lib.hid hc.2
        obtain ⟨R1, R2, k5⟩ := hc.1
        have S5 := Lib.hid (S4.out.step k5)
        have RM5 := Lib.hid (room_at k5.lg m (by omega) P2 ok2 HP2.out)
        have HPO : Hid (ok2 = true → PlOk P2 ∧ 0 ≤ P2.seg) := Lib.hid (fun e => room_ok k5.lg (size := m) (by omega) (by rw [HP2.out, e]))
        clear hc k5 CP2 S4 HP2
        obtain ⟨q1, q2, q3⟩ := P2
        unfold plV plC at RM5
        dsimp only at RM5
        have hlen : (m : Int) = (m : Int) := rfl
        go_wp2_with fail
        refine RM5.out.mono ?_
        rintro e w6 ⟨rfl, hb6⟩
        have S6 := Lib.hid (S5.out.later hb6)
        have BP6 := S6.out.bp
        have S7 := Lib.hid (S6.out.place GN.out ⟨q1, q2, q3⟩)
        clear S5 RM5 hb6
        go_wp2_with (refine wpList_storeRow rfl rfl rfl rfl BP6 rfl (by kernel_rfl) (by simp [Value.oneCell']) ?_)
        go_meet
        exact ⟨gc, ec, ok2, ⟨q1, q2, q3⟩, R1, R2, rfl, rfl, S7, HFK5, HPO, HE⟩
    case rest =>
      obtain ⟨g1, ec, ok1, P1, R1, R2, rfl, rfl, S5, HF1, HPO, HE⟩ := hcut
      clear CP HX HP S4 B4 G
      obtain ⟨pm, wm, hi, hmi⟩ := S5.out.aft.lg.lx.ix
      have HI := Lib.hid hi
      have HMI := Lib.hid hmi
      clear hi hmi
      obtain ⟨tp, htp⟩ : ∃ v, g1.x.top = v := ⟨_, rfl⟩
      have HTP := Lib.hid htp
      clear htp
      have TOP : Hid (∀ W, PutS w RD RL d L pb rb w1.heap.size m c a b r P1 g1 R1 R2 W → IxM W 0 L 2 (logC d g1.n pm wm g1.x.top) 70 pm wm g1.x → ∃ R3 R4, PutS w RD RL d L pb rb w1.heap.size m c a b r P1 (topped g1 r.id) R3 R4 (W.setCell ⟨L, 4, none⟩ (.int .i64 (max tp r.id)))) := Lib.hid (fun W hW h2 => by
        have h9 := hW.aft.lg.topset h2 HMI.out (max g1.x.top r.id) (hW.aft.lg.lx.ok.topped (okI_iff HID.out).2)
        rw [HTP.out] at h9
        obtain ⟨R3, R4, h8⟩ := hW.stepL h9
        refine ⟨R3, R4, ?_⟩
        unfold topped
        rw [HTP.out]
        exact h8)
      go_upto_region 10 with fail
      go_cut [] (fun wt => ∃ (R3 R4 : Nat → Prop), Hid (PutS w RD RL d L pb rb w1.heap.size m c a b r P1 (topped g1 r.id) R3 R4 wt))
      case first =>
        refine wp_region_last 12 (fun w' => PutS w RD RL d L pb rb w1.heap.size m c a b r P1 g1 R1 R2 w' ∧ IxM w' 0 L 2 (logC d g1.n pm wm g1.x.top) 70 pm wm g1.x) (by kernel_rfl) (⟨S5.out.later (Below.refl _ _).drew, HI.out.drew⟩) (fun hHeld hClosed => ?_)
        refine wpAnyL_take (i := 0) (v := ?_) rfl (by kernel_rfl) (by kernel_rfl) (by kernel_rfl) (by kernel_rfl) (fun _ _ _ h => h) (by kernel_rfl) hClosed (Or.inl ⟨by rfl, ?_⟩) hHeld (fun hClosed => ?_)
        rotate_left
        · intro wv hSw; go_simp; all_goals (with_reducible rfl)
        (try simp only [List.getElem_toArray, List.getElem_cons_zero, put_at, List.set])
        refine wpAnyL_take (i := 1) (v := ?_) rfl (by kernel_rfl) (by kernel_rfl) (by kernel_rfl) (by kernel_rfl) (fun _ _ _ h => h) (by kernel_rfl) hClosed (Or.inl ⟨by rfl, ?_⟩) hHeld (fun hClosed => ?_)
        rotate_left
        · intro wv hSw; go_simp; all_goals (with_reducible rfl)
        (try simp only [List.getElem_toArray, List.getElem_cons_succ, List.getElem_cons_zero, put_at, List.set])
        refine wpAnyL_take (i := 2) (v := ?_) rfl (by kernel_rfl) (by kernel_rfl) (by kernel_rfl) (by kernel_rfl) (fun _ _ _ h => h) (by kernel_rfl) hClosed (Or.inl ⟨by rfl, ?_⟩) hHeld (fun hClosed => ?_)
        rotate_left
        · intro wv hSw; go_simp; all_goals (with_reducible rfl)
        (try simp only [List.getElem_toArray, List.getElem_cons_succ, List.getElem_cons_zero, put_at, List.set])
        refine wpAnyL_take (i := 3) (v := ?_) rfl (by kernel_rfl) (by kernel_rfl) (by kernel_rfl) (by kernel_rfl) (fun _ _ _ h => h) (by kernel_rfl) hClosed (Or.inl ⟨by rfl, ?_⟩) hHeld (fun hClosed => ?_)
        rotate_left
        · intro wv hSw; go_simp; all_goals (with_reducible rfl)
        (try simp only [List.getElem_toArray, List.getElem_cons_succ, List.getElem_cons_zero, put_at, List.set])
        refine wpAnyL_take (i := 4) (v := ?_) rfl (by kernel_rfl) (by kernel_rfl) (by kernel_rfl) (by kernel_rfl) (fun _ _ _ h => h) (by kernel_rfl) hClosed (Or.inl ⟨by rfl, ?_⟩) hHeld (fun hClosed => ?_)
        rotate_left
        · intro wv hSw; go_simp; all_goals (with_reducible rfl)
        (try simp only [List.getElem_toArray, List.getElem_cons_succ, List.getElem_cons_zero, put_at, List.set])
        refine wpAnyL_take (i := 5) (v := ?_) rfl (by kernel_rfl) (by kernel_rfl) (by kernel_rfl) (by kernel_rfl) (fun _ _ _ h => h) (by kernel_rfl) hClosed (Or.inl ⟨by rfl, ?_⟩) hHeld (fun hClosed => ?_)
        rotate_left
        · intro wv hSw; have c2 : wv.cell? ⟨L, 4, none⟩ = some (.int .i64 g1.x.top) := hSw.2.box.cell 4; rw [HTP.out] at c2; have r0 := hSw.1.br.cell 0; go_simp; all_goals (with_reducible rfl)
        (try simp only [List.getElem_toArray, List.getElem_cons_succ, List.getElem_cons_zero, put_at, List.set])
        refine wpAnyL_take (i := 6) (v := ?_) rfl (by kernel_rfl) (by kernel_rfl) (by kernel_rfl) (by kernel_rfl) (fun _ _ _ h => h) (by kernel_rfl) hClosed (Or.inl ⟨by rfl, ?_⟩) hHeld (fun hClosed => ?_)
        rotate_left
        · intro wv hSw; go_simp; all_goals (with_reducible rfl)
        (try simp only [List.getElem_toArray, List.getElem_cons_succ, List.getElem_cons_zero, put_at, List.set])
        refine wpAnyL_take (i := 7) (v := ?_) rfl (by kernel_rfl) (by kernel_rfl) (by kernel_rfl) (by kernel_rfl) (fun _ _ _ h => h) (by kernel_rfl) hClosed (Or.inl ⟨by rfl, ?_⟩) hHeld (fun hClosed => ?_)
        rotate_left
        · intro wv hSw; have c2 : wv.cell? ⟨L, 4, none⟩ = some (.int .i64 g1.x.top) := hSw.2.box.cell 4; rw [HTP.out] at c2; have r0 := hSw.1.br.cell 0; go_simp; all_goals (with_reducible rfl)
        (try simp only [List.getElem_toArray, List.getElem_cons_succ, List.getElem_cons_zero, put_at, List.set])
        refine wpAnyL_take (i := 8) (v := ?_) rfl (by kernel_rfl) (by kernel_rfl) (by kernel_rfl) (by kernel_rfl) (fun _ _ _ h => h) (by kernel_rfl) hClosed (Or.inl ⟨by rfl, ?_⟩) hHeld (fun hClosed => ?_)
        rotate_left
        · intro wv hSw; go_simp; all_goals (with_reducible rfl)
        (try simp only [List.getElem_toArray, List.getElem_cons_succ, List.getElem_cons_zero, put_at, List.set])
        refine wpAnyL_take (i := 9) (v := ?_) rfl (by kernel_rfl) (by kernel_rfl) (by kernel_rfl) (by kernel_rfl) (fun _ _ _ h => h) (by kernel_rfl) hClosed (Or.inl ⟨by rfl, ?_⟩) hHeld (fun hClosed => ?_)
        rotate_left
        · intro wv hSw; go_simp; all_goals (with_reducible rfl)
        (try simp only [List.getElem_toArray, List.getElem_cons_succ, List.getElem_cons_zero, put_at, List.set])
        refine wpAnyL_take (i := 10) (v := ?_) rfl (by kernel_rfl) (by kernel_rfl) (by kernel_rfl) (by kernel_rfl) (fun _ _ _ h => h) (by kernel_rfl) hClosed (Or.inl ⟨by rfl, ?_⟩) hHeld (fun hClosed => ?_)
        rotate_left
        · intro wv hSw; go_simp; all_goals (with_reducible rfl)
        (try simp only [List.getElem_toArray, List.getElem_cons_succ, List.getElem_cons_zero, put_at, List.set])
        refine wpAnyL_take (i := 11) (v := ?_) rfl (by kernel_rfl) (by kernel_rfl) (by kernel_rfl) (by kernel_rfl) (fun _ _ _ h => h) (by kernel_rfl) hClosed (Or.inl ⟨by rfl, ?_⟩) hHeld (fun hClosed => ?_)
        rotate_left
        · intro wv hSw; go_simp; all_goals (with_reducible rfl)
        (try simp only [List.getElem_toArray, List.getElem_cons_succ, List.getElem_cons_zero, put_at, List.set])
        refine wpAnyL_last rfl (by kernel_rfl) (by kernel_rfl) (fun KK hK => ?_)
        have c2 : _ = some _ := hHeld.2.box.cell 4
        have f2 := hHeld.2.box.free 4
        have lb := hHeld.2.box.lt
        go_simp
        refine hK.out _ _ ?_
        (try simp only [put_at, List.set])
        have F5 := TOP.out _ hHeld.1 hHeld.2
        clear hHeld hClosed TOP
        obtain ⟨R3, R4, F6⟩ := F5
        go_wp2_with fail
        go_meet
        refine ⟨R3, R4, Lib.hid ?_⟩
        exact F6
      obtain ⟨R3, R4, S8⟩ := hcut
      clear TOP HI HMI S5 HTP
      by_cases hz : ec = 0
      · have dz : (ec != 0) = false := by simp [hz]
        cases ok1 with
        | false =>
          have HE2 : Hid ((G1, E1) = (topped g1 r.id, (5 : Int))) := Lib.hid (by rw [HE.out]; unfold putTail; rw [if_pos hz, if_neg (by decide)])
          clear HE hz HPO
          go_wp2_with fail
          go_ret
          have h9 := HE2.out
          injection h9 with e1 e2
          subst e1 e2
          exact ⟨rfl, ⟨R3, R4, S8.out.aft⟩, few_mono (few_top HF1.out) (Nat.le_succ K)⟩
        | true =>
          have HE2 : Hid ((G1, E1) = putAt (topped g1 r.id) r P1) := Lib.hid (by rw [HE.out]; unfold putTail; rw [if_pos hz, if_pos rfl])
          have HPL := Lib.hid (HPO.out rfl)
          have HB0 : 0 < b.length := by rw [← HEB.out]; have := encR_ge r; omega
          have WR := Lib.hid (write_at S8.out.aft.lg P1 HPL.out.2 HPL.out.1.seg b HBY.out HB0 m HM.out (by omega) a c (rdC_of_own S8.out.own (by decide)) (fun g9 off e => by
            rcases S8.out.own.form with ⟨h1, _⟩ | ⟨g8, h1, h2, _⟩
            · rw [h1] at e; cases e
            · rw [h1] at e
              cases e
              exact fun e => (S8.out.off _ (Or.inr (Or.inr h1))).1 (Or.inl e)))
          obtain ⟨⟨D2, e2⟩, hD2⟩ : ∃ Y, writeD (topped g1 r.id).D P1.seg b = Y := ⟨_, rfl⟩
          have HE3 : Hid ((G1, E1) = if e2 = 0 then (⟨D2, (topped g1 r.id).n, { (topped g1 r.id).x with puts := pA (topped g1 r.id).x.puts r.id P1 }⟩, 0) else (⟨D2, (topped g1 r.id).n, (topped g1 r.id).x⟩, e2)) := Lib.hid (by rw [HE2.out]; unfold putAt; rw [HEB.out, hD2])
          rw [hD2] at WR
          obtain ⟨p1', p2', p3'⟩ := P1
          unfold plV plC at WR
          dsimp only at WR
          have c0 := S8.out.bp.cell 0
          have c1 := S8.out.bp.cell 1
          have c2 := S8.out.bp.cell 2
          clear HE HE2 HPO HB0 hz hD2
          go_wp2_with fail
          refine WR.out.mono ?_
          rintro e w9 ⟨rfl, ha⟩
          obtain ⟨R5, R6, h9⟩ := S8.out.stepL ha
          have S9 := Lib.hid h9
          clear h9 ha WR c0 c1 c2
          by_cases hz : e2 = 0
          · have dz : (e2 != 0) = false := by simp [hz]
            subst hz
            have HE4 : Hid ((G1, E1) = ((⟨D2, (topped g1 r.id).n, { (topped g1 r.id).x with puts := pA (topped g1 r.id).x.puts r.id ⟨p1', p2', p3'⟩ }⟩ : Lg), (0 : Int))) := Lib.hid (by rw [HE3.out, if_pos rfl])
            obtain ⟨g9, hg9⟩ : ∃ g9 : Lg, (⟨D2, (topped g1 r.id).n, (topped g1 r.id).x⟩ : Lg) = g9 := ⟨_, rfl⟩
            have HG9 := Lib.hid hg9.symm
            have HF9 : Hid (FewK K g9.x) := Lib.hid (by rw [← hg9]; exact few_top HF1.out)
            rw [hg9] at S9
            have HE5 : Hid ((G1, E1) = ((⟨g9.D, g9.n, { g9.x with puts := pA g9.x.puts r.id ⟨p1', p2', p3'⟩ }⟩ : Lg), (0 : Int))) := Lib.hid (by rw [HE4.out, ← hg9])
            obtain ⟨pm2, wm2, hi, hmi⟩ := S9.out.aft.lg.lx.ix
            have HI := Lib.hid hi
            have HMI := Lib.hid hmi
            have HR0 : Hid (0 ≤ r.id) := Lib.hid HSO.out.2.2.1
            have STO : Hid (∀ W, PutS w RD RL d L pb rb w1.heap.size m c a b r ⟨p1', p2', p3'⟩ g9 R5 R6 W → IxM W 0 L 2 (logC d g9.n pm2 wm2 g9.x.top) 70 pm2 wm2 g9.x → ∃ w5, (Instr.mapUpdate 63 (.map (some pm2)) (.int .i64 r.id) (plV ⟨p1', p2', p3'⟩)).run Tryz.prog W = .ok () w5 ∧ CmP w RD RL d L (K + 1) ⟨g9.D, g9.n, { g9.x with puts := pA g9.x.puts r.id ⟨p1', p2', p3'⟩ }⟩ w5) := Lib.hid (fun W hW h2 => by
              obtain ⟨w5, h3, h4, h5⟩ := h2.puts.store tyP r.id HID.out ⟨p1', p2', p3'⟩ (by have := HF9.out.1; omega)
              refine ⟨w5, h3, ?_, few_put HF9.out _ _⟩
              exact AftL.trans hW.aft (hW.aft.lg.puts h2 HMI.out h5 h4 (hW.aft.lg.lx.ok.puts_ HPL.out.1 HR0.out)))
            clear hg9 hi hmi HE3 HE4 HPL S8 HF1 HG9
            go_upto_region 18 with fail
            refine wp_region_last 8 (fun w' => PutS w RD RL d L pb rb w1.heap.size m c a b r ⟨p1', p2', p3'⟩ g9 R5 R6 w' ∧ IxM w' 0 L 2 (logC d g9.n pm2 wm2 g9.x.top) 70 pm2 wm2 g9.x) (by kernel_rfl) (⟨S9.out.later (Below.refl _ _).drew, HI.out.drew⟩) (fun hHeld hClosed => ?_)
            refine wpAnyL_take (i := 0) (v := ?_) rfl (by kernel_rfl) (by kernel_rfl) (by kernel_rfl) (by kernel_rfl) (fun _ _ _ h => h) (by kernel_rfl) hClosed (Or.inl ⟨by rfl, ?_⟩) hHeld (fun hClosed => ?_)
            rotate_left
            · intro wv hSw; go_simp; all_goals (with_reducible rfl)
            (try simp only [List.getElem_toArray, List.getElem_cons_zero, put_at, List.set])
            refine wpAnyL_take (i := 1) (v := ?_) rfl (by kernel_rfl) (by kernel_rfl) (by kernel_rfl) (by kernel_rfl) (fun _ _ _ h => h) (by kernel_rfl) hClosed (Or.inl ⟨by rfl, ?_⟩) hHeld (fun hClosed => ?_)
            rotate_left
            · intro wv hSw; go_simp; all_goals (with_reducible rfl)
            (try simp only [List.getElem_toArray, List.getElem_cons_succ, List.getElem_cons_zero, put_at, List.set])
            refine wpAnyL_take (i := 2) (v := ?_) rfl (by kernel_rfl) (by kernel_rfl) (by kernel_rfl) (by kernel_rfl) (fun _ _ _ h => h) (by kernel_rfl) hClosed (Or.inl ⟨by rfl, ?_⟩) hHeld (fun hClosed => ?_)
            rotate_left
            · intro wv hSw; go_simp; all_goals (with_reducible rfl)
            (try simp only [List.getElem_toArray, List.getElem_cons_succ, List.getElem_cons_zero, put_at, List.set])
            refine wpAnyL_take (i := 3) (v := ?_) rfl (by kernel_rfl) (by kernel_rfl) (by kernel_rfl) (by kernel_rfl) (fun _ _ _ h => h) (by kernel_rfl) hClosed (Or.inl ⟨by rfl, ?_⟩) hHeld (fun hClosed => ?_)
            rotate_left
            · intro wv hSw; go_simp; all_goals (with_reducible rfl)
            (try simp only [List.getElem_toArray, List.getElem_cons_succ, List.getElem_cons_zero, put_at, List.set])
            refine wpAnyL_take (i := 4) (v := ?_) rfl (by kernel_rfl) (by kernel_rfl) (by kernel_rfl) (by kernel_rfl) (fun _ _ _ h => h) (by kernel_rfl) hClosed (Or.inl ⟨by rfl, ?_⟩) hHeld (fun hClosed => ?_)
            rotate_left
            · intro wv hSw; have c0 : wv.cell? ⟨L, 2, none⟩ = some (.map (some pm2)) := hSw.2.box.cell 2; have r0 := hSw.1.br.cell 0; have q0 := hSw.1.bp.cell 0; have q1 := hSw.1.bp.cell 1; have q2 := hSw.1.bp.cell 2; go_simp; all_goals (with_reducible rfl)
            (try simp only [List.getElem_toArray, List.getElem_cons_succ, List.getElem_cons_zero, put_at, List.set])
            refine wpAnyL_take (i := 5) (v := ?_) rfl (by kernel_rfl) (by kernel_rfl) (by kernel_rfl) (by kernel_rfl) (fun _ _ _ h => h) (by kernel_rfl) hClosed (Or.inl ⟨by rfl, ?_⟩) hHeld (fun hClosed => ?_)
            rotate_left
            · intro wv hSw; go_simp; all_goals (with_reducible rfl)
            (try simp only [List.getElem_toArray, List.getElem_cons_succ, List.getElem_cons_zero, put_at, List.set])
            refine wpAnyL_take (i := 6) (v := ?_) rfl (by kernel_rfl) (by kernel_rfl) (by kernel_rfl) (by kernel_rfl) (fun _ _ _ h => h) (by kernel_rfl) hClosed (Or.inl ⟨by rfl, ?_⟩) hHeld (fun hClosed => ?_)
            rotate_left
            · intro wv hSw; have c0 : wv.cell? ⟨L, 2, none⟩ = some (.map (some pm2)) := hSw.2.box.cell 2; have r0 := hSw.1.br.cell 0; have q0 := hSw.1.bp.cell 0; have q1 := hSw.1.bp.cell 1; have q2 := hSw.1.bp.cell 2; go_simp; all_goals (with_reducible rfl)
            (try simp only [List.getElem_toArray, List.getElem_cons_succ, List.getElem_cons_zero, put_at, List.set])
            refine wpAnyL_take (i := 7) (v := ?_) rfl (by kernel_rfl) (by kernel_rfl) (by kernel_rfl) (by kernel_rfl) (fun _ _ _ h => h) (by kernel_rfl) hClosed (Or.inl ⟨by rfl, ?_⟩) hHeld (fun hClosed => ?_)
            rotate_left
            · intro wv hSw; have c0 : wv.cell? ⟨L, 2, none⟩ = some (.map (some pm2)) := hSw.2.box.cell 2; have r0 := hSw.1.br.cell 0; have q0 := hSw.1.bp.cell 0; have q1 := hSw.1.bp.cell 1; have q2 := hSw.1.bp.cell 2; go_simp; all_goals (with_reducible rfl)
            (try simp only [List.getElem_toArray, List.getElem_cons_succ, List.getElem_cons_zero, put_at, List.set])
            refine wpAnyL_last rfl (by kernel_rfl) (by kernel_rfl) (fun KK hK => ?_)
            obtain ⟨w5, hrun5, hc5⟩ := STO.out _ hHeld.1 hHeld.2
            unfold plV plC at hrun5
            dsimp only at hrun5
            go_simp
            refine hK.out _ _ ?_
            (try simp only [put_at, List.set])
            have F5 := Lib.hid hc5
            clear hc5 hHeld hClosed STO
            go_wp2_with fail
            go_ret
            have h9 := HE5.out
            injection h9 with e1 e2
            subst e1 e2
            exact ⟨rfl, F5.out⟩
          · have dz : (e2 != 0) = true := by simp [hz]
            have HE4 : Hid ((G1, E1) = ((⟨D2, (topped g1 r.id).n, (topped g1 r.id).x⟩ : Lg), e2)) := Lib.hid (by rw [HE3.out, if_neg hz])
            clear HE3 hz HPL S8
            go_wp2_with fail
            go_ret
            have h9 := HE4.out
            injection h9 with e1 e2
            subst e1 e2
            exact ⟨rfl, ⟨R5, R6, S9.out.aft⟩, few_mono (few_top HF1.out) (Nat.le_succ K)⟩
      · have dz : (ec != 0) = true := by simp [hz]
        have HE2 : Hid ((G1, E1) = (topped g1 r.id, ec)) := Lib.hid (by rw [HE.out]; unfold putTail; rw [if_neg hz])
        clear HE hz HPO
        go_wp2_with fail
        go_ret
        have h9 := HE2.out
        injection h9 with e1 e2
        subst e1 e2
        exact ⟨rfl, ⟨R3, R4, S8.out.aft⟩, few_mono (few_top HF1.out) (Nat.le_succ K)⟩
  · have HE : Hid ((G1, E1) = (g, (2 : Int))) := Lib.hid (by rw [HX.out, put_no hk1])
    clear HX hk1 RM CP
    go_wp2_with fail
    go_ret
    have h9 := HE.out
    injection h9 with e1 e2
    subst e1 e2
    exact ⟨rfl, AftL.refl G.out B2.out, few_mono HFK.out (Nat.le_succ K)⟩
end Go.Proofs.YteinblpkcpjpnaaGreatDoor
/- Package spill: Wait. Written by gen_wait.py. -/
namespace Go.Proofs.YteinblpkcpjpnaaGreatDoor
open Go Go.RowKit Go.Maps
set_option linter.unusedVariables false
set_option linter.unusedSimpArgs false
set_option maxRecDepth 100000

theorem wait_no {g : Lg} {s : ByteArray} {t : Int} (h : ¬ soundR (waitRc s t)) : waitL g s t = (g, 2) := by unfold waitL; rw [if_neg h]
theorem wait_yes {g : Lg} {s : ByteArray} {t : Int} (h : soundR (waitRc s t)) {q : Bool} (hq : newsI g.x s t = q) {G1 : Lg} {P : Pl} {E : Int} (hn : waitNote g s t = (G1, P, E)) : waitL g s t = if q = true ∧ P ≠ nowh then (⟨G1.D, G1.n, { G1.x with waits := pA G1.x.waits s ⟨t, P⟩ }⟩, E) else (G1, E) := by
  unfold waitL
  rw [if_pos h, hq, hn]
theorem few_pause {K : Nat} {x : Ix} (h : FewK K x) (s : ByteArray) (t : Int) (p : Pl) : FewK (K + 1) (pauseI x s t p) := by
  unfold pauseI
  split
  · refine ⟨Nat.le_trans h.1 (Nat.le_succ _), ?_⟩
    show (pA _ _ _).length ≤ _
    have := h.2
    rw [len_pA]
    split <;> omega
  · exact few_mono h (Nat.le_succ _)
theorem few_wait {K : Nat} {x : Ix} (h : FewK K x) (s : ByteArray) (v : Wt) : FewK (K + 1) { x with waits := pA x.waits s v } := by
  refine ⟨Nat.le_trans h.1 (Nat.le_succ _), ?_⟩
  show (pA _ _ _).length ≤ _
  have := h.2
  rw [len_pA]
  split <;> omega
/-- Where a record was written alone, the index is as it was, and the place is sound. -/
theorem note_alone {g : Lg} {r : Rc} {G1 : Lg} {P : Pl} {E : Int} (hn : noteL g r = (G1, P, E)) (hP : P ≠ nowh) {w : World} {RD RL : Nat → Prop} {d L : Nat} (h : LgM w RD RL d L g) : G1.x = g.x ∧ PlOk P := by
  by_cases hs : soundR r
  · obtain ⟨⟨Q, ok⟩, hQ⟩ : ∃ Q, roomL g.D g.n (encR r).length = Q := ⟨_, rfl⟩
    have hl := encO_len r
    rw [encO_sound hs] at hl
    cases ok with
    | false =>
      rw [note_full hs (by rw [hQ])] at hn
      injection hn with e1 e2
      injection e2 with e2 e3
      exact absurd e2.symm hP
    | true =>
      have hr := room_ok h (by omega) hQ
      rw [note_yes hs (by rw [hQ])] at hn
      injection hn with e1 e2
      injection e2 with e2 e3
      refine ⟨by rw [← e1], ?_⟩
      rw [hQ] at e2
      dsimp only at e2
      split at e2
      · rw [← e2]; exact hr.1
      · exact absurd e2.symm hP
  · rw [note_no hs] at hn
    injection hn with e1 e2
    injection e2 with e2 e3
    exact absurd e2.symm hP
theorem pl_beq (a : Pl) : (a.seg == nowh.seg && (a.off == nowh.off && a.size == nowh.size)) = decide (a = nowh) := by
  by_cases h : a = nowh
  · rw [h]; decide
  · rw [decide_eq_false h]
    rw [Bool.eq_false_iff]
    intro e
    simp only [Bool.and_eq_true, beq_iff_eq] at e
    obtain ⟨e1, e2, e3⟩ := e
    apply h
    cases a
    simp only at e1 e2 e3
    subst e1 e2 e3
    rfl
theorem IxM.turnedX {w w' : World} {B b o : Nat} {cs : Array Value} {t : TypeId} {pm m : Nat} {x : Ix} (h : IxM w B b o cs t pm (some m) x) (ht : w.mapTurned w' m) {S : List (ByteArray × Wt)} (hS : WtM1 w' m S) : IxM w' B b o cs t pm (some m) { x with waits := S } := by
  have hm : WtM1 w m x.waits := by
    rcases h.waits with ⟨e, _⟩ | ⟨m3, e, h3⟩
    · cases e
    · cases e; exact h3
  exact ⟨(turned_block ht h.box.lt (fun e => am_not_box hm h.box e.symm)).trans h.box, h.c0, h.c1, h.c2, h.puts.block (turned_block ht h.puts.lt (fun e => h.apart (by rw [e]))), Or.inr ⟨m, rfl, hS⟩, h.apart, h.bB, h.pB, h.wB⟩
theorem LgM.waits {w w' : World} {RD RL : Nat → Prop} {d L : Nat} {g : Lg} {pm m : Nat} (h : LgM w RD RL d L g) (hi : IxM w 0 L 2 (logC d g.n pm (some m) g.x.top) 70 pm (some m) g.x) (hm : ∀ k, MineI L pm (some m) k → RL k) {S : List (ByteArray × Wt)} (ht : w.mapTurned w' m) (hS : WtM1 w' m S) (ho : IxOk { g.x with waits := S }) : AftL RD RL d L w ⟨g.D, g.n, { g.x with waits := S }⟩ w' :=
  h.index (LxM.turned hi hm ⟨some m, _, hi.turnedX ht hS, fun _ _ _ => rfl, Only.of_grown ht.grown (fun k e => Or.inr (Or.inr e)), Or.inl rfl⟩ ho)
set_option maxHeartbeats 4000000 in
theorem wait_at {w : World} {RD RL : Nat → Prop} {d L : Nat} {g : Lg} (h : LgM w RD RL d L g) (s : ByteArray) (t : Int) (ht : okI t) {K : Nat} (hf : FewK K g.x) (hK1 : 32768 ≤ K) (hK2 : K ≤ 800000) (hgn : g.n ≤ 1000) (X : Lg × Int) (hX : waitL g s t = X) :
    Calls Tryz.prog 15 #[.pointer (some ⟨L, 0, none⟩), .string s, .int .i64 t] w fun e w' => e = .returned (.int .i64 X.2) ∧ CmP w RD RL d L (K + 2) X.1 w' := by
  have EN := Lib.hid (fun (W : World) => kenc_at (waitRc s t) W)
  have HX := Lib.hid hX.symm
  have HT := Lib.hid ht
  have G := Lib.hid h
  have HFK := Lib.hid hf
  obtain ⟨pm, wm, hi, hmi⟩ := h.lx.ix
  have HI := Lib.hid hi
  have HMI := Lib.hid hmi
  obtain ⟨b, hb⟩ : ∃ b, encO (waitRc s t) = b := ⟨_, rfl⟩
  rw [hb] at EN
  obtain ⟨m, hm⟩ : ∃ m, b.length = m := ⟨_, rfl⟩
  rw [hm] at EN
  obtain ⟨G1, E1⟩ := X
  dsimp only
  have EN2 : Hid (∀ W, Calls Tryz.prog 27 #[.agg #[.int .i64 3, .int .i64 0, .string s, .string ⟨#[]⟩, .int .i64 0, .int .i64 t]] W fun e w' => ∃ a c k, e = .returned (.tuple #[.slice a m c, .int .i64 k]) ∧ Own w' W.heap.size 5 1 a m c (u8L b) ∧ Below W.heap.size W w' ∧ ((soundR (waitRc s t) ∧ k = 0) ∨ (¬ soundR (waitRc s t) ∧ k = 2))) := Lib.hid (fun W => EN.out W)
  clear EN hX hf hb hm h ht hi hmi
  go_enter Tryz.func15, Tryz.ntmps15
  go_upto_region 4 with fail
  refine code_forget (fun W => Hid (Box W w.heap.size #[.int .i64 3, .int .i64 0, .string s, .string ⟨#[]⟩, .int .i64 0, .int .i64 t] 74) ∧ Hid (Below w.heap.size w W)) ⟨Lib.hid (Box.new w _ _), Lib.hid ((Below.refl w.heap.size w).alloc (Nat.le_refl _) _)⟩ ?_
  obtain ⟨rb, hrb⟩ : ∃ p, w.heap.size = p := ⟨_, rfl⟩
  have HRB := Lib.hid hrb
  rw [hrb]
  rintro w1 ⟨BR1, B1⟩
  rw [← HRB.out] at B1
  clear hrb
  have HNR : Hid (¬ (RD rb ∨ RL rb)) := Lib.hid (G.out.not_own (by have := HRB.out; omega))
  have r0 := BR1.out.cell 0
  have r1 := BR1.out.cell 1
  have r2 := BR1.out.cell 2
  have r3 := BR1.out.cell 3
  have r4 := BR1.out.cell 4
  have r5 := BR1.out.cell 5
  go_wp2_with fail
  refine (EN2.out w1).mono ?_
  rintro e w2 ⟨a, c, k, rfl, ho, hb, hk⟩
  have B2 := Lib.hid (B1.out.trans (hb.mono B1.out.size))
  have BR2 := Lib.hid (BR1.out.later hb)
  clear ho hb r0 r1 r2 r3 r4 r5 EN2 BR1 B1
  rcases hk with ⟨hk1, rfl⟩ | ⟨hk1, rfl⟩
  · obtain ⟨q, hq⟩ : ∃ q, newsI g.x s t = q := ⟨_, rfl⟩
    obtain ⟨⟨G2, ⟨p1, p2, p3⟩, E2⟩, hY⟩ : ∃ Y, waitNote g s t = Y := ⟨_, rfl⟩
    have HE : Hid ((G1, E1) = if q = true ∧ (⟨p1, p2, p3⟩ : Pl) ≠ nowh then ((⟨G2.D, G2.n, { G2.x with waits := pA G2.x.waits s ⟨t, ⟨p1, p2, p3⟩⟩ }⟩ : Lg), E2) else (G2, E2)) := Lib.hid (by rw [HX.out]; exact wait_yes hk1 hq hY)
    have HY := Lib.hid hY
    have HQ := Lib.hid hq
    have HSZ : Hid (s.size ≤ 256) := Lib.hid hk1.2.2.2.2.2.2.1
    have HOS : Hid (okS s) := Lib.hid (Nat.le_trans HSZ.out (by decide))
    have PA := Lib.hid (fun (W : World) (hW : Below w.heap.size w W) => pause_at (HI.out.later hW) s HOS.out t nowh (Nat.zero_le _) (Nat.le_trans HFK.out.2 (by omega)) (by decide))
    rw [hq] at PA
    have PI : Hid (∀ W W', Below w.heap.size w W → AftI 0 L 2 (logC d g.n pm wm g.x.top) 70 pm wm W (pauseI g.x s t nowh) W' → AftL RD RL d L w ⟨g.D, g.n, pauseI g.x s t nowh⟩ W') := Lib.hid (fun W W' hW ha => AftL.before hW ((G.out.later hW).index (LxM.turned (HI.out.later hW) HMI.out ha (G.out.lx.ok.pause plOk_now (okI_iff HT.out).2 HSZ.out))))
    have PB : Hid (∀ W W', Below w.heap.size w W → AftI 0 L 2 (logC d g.n pm wm g.x.top) 70 pm wm W (pauseI g.x s t nowh) W' → AftL RD RL d L W ⟨g.D, g.n, pauseI g.x s t nowh⟩ W') := Lib.hid (fun W W' hW ha => (G.out.later hW).index (LxM.turned (HI.out.later hW) HMI.out ha (G.out.lx.ok.pause plOk_now (okI_iff HT.out).2 HSZ.out)))
    unfold plV plC nowh at PA
    dsimp only at PA
    clear hk1 hq hY HX
    go_upto_region 7 with fail
    go_cut [10] (fun v w5 => v = .bool q ∧ Hid (AftL RD RL d L w ⟨g.D, g.n, pauseI g.x s t nowh⟩ w5) ∧ Hid (Box w5 rb #[.int .i64 3, .int .i64 0, .string s, .string ⟨#[]⟩, .int .i64 0, .int .i64 t] 74))
    case first =>
      refine wp_region_last 7 (fun w' => NowM w') (by kernel_rfl) ((G.out.later B2.out).now.later (Below.refl _ _).drew) (fun hHeld hClosed => ?_)
      refine wpAnyL_take (i := 0) (v := ?_) rfl (by kernel_rfl) (by kernel_rfl) (by kernel_rfl) (by kernel_rfl) (fun _ _ _ h => h) (by kernel_rfl) hClosed (Or.inl ⟨by rfl, ?_⟩) hHeld (fun hClosed => ?_)
      rotate_left
      · intro wv hSw; go_simp; all_goals (with_reducible rfl)
      (try simp only [List.getElem_toArray, List.getElem_cons_zero, put_at, List.set])
      refine wpAnyL_take (i := 1) (v := ?_) rfl (by kernel_rfl) (by kernel_rfl) (by kernel_rfl) (by kernel_rfl) (fun _ _ _ h => h) (by kernel_rfl) hClosed (Or.inl ⟨by rfl, ?_⟩) hHeld (fun hClosed => ?_)
      rotate_left
      · intro wv hSw; go_simp; all_goals (with_reducible rfl)
      (try simp only [List.getElem_toArray, List.getElem_cons_succ, List.getElem_cons_zero, put_at, List.set])
      refine wpAnyL_take (i := 2) (v := ?_) rfl (by kernel_rfl) (by kernel_rfl) (by kernel_rfl) (by kernel_rfl) (fun _ _ _ h => h) (by kernel_rfl) hClosed (Or.inl ⟨by rfl, ?_⟩) hHeld (fun hClosed => ?_)
      rotate_left
      · intro wv hSw; go_simp; all_goals (with_reducible rfl)
      (try simp only [List.getElem_toArray, List.getElem_cons_succ, List.getElem_cons_zero, put_at, List.set])
      refine wpAnyL_take (i := 3) (v := ?_) rfl (by kernel_rfl) (by kernel_rfl) (by kernel_rfl) (by kernel_rfl) (fun _ _ _ h => h) (by kernel_rfl) hClosed (Or.inl ⟨by rfl, ?_⟩) hHeld (fun hClosed => ?_)
      rotate_left
      · intro wv hSw; go_simp; all_goals (with_reducible rfl)
      (try simp only [List.getElem_toArray, List.getElem_cons_succ, List.getElem_cons_zero, put_at, List.set])
      refine wpAnyL_take (i := 4) (v := ?_) rfl (by kernel_rfl) (by kernel_rfl) (by kernel_rfl) (by kernel_rfl) (fun _ _ _ h => h) (by kernel_rfl) hClosed (Or.inl ⟨by rfl, ?_⟩) hHeld (fun hClosed => ?_)
      rotate_left
      · intro wv hSw; go_simp; all_goals (with_reducible rfl)
      (try simp only [List.getElem_toArray, List.getElem_cons_succ, List.getElem_cons_zero, put_at, List.set])
      refine wpAnyL_take (i := 5) (v := ?_) rfl (by kernel_rfl) (by kernel_rfl) (by kernel_rfl) (by kernel_rfl) (fun _ _ _ h => h) (by kernel_rfl) hClosed (Or.inl ⟨by rfl, ?_⟩) hHeld (fun hClosed => ?_)
      rotate_left
      · intro wv hSw; have n0 : wv.cell? ⟨0, 0, none⟩ = some (.int .i64 9223372036854775807) := hSw 0 (by decide); have n1 : wv.cell? ⟨0, 1, none⟩ = some (.int .i64 9223372036854775807) := hSw 1 (by decide); have n2 : wv.cell? ⟨0, 2, none⟩ = some (.int .i64 0) := hSw 2 (by decide); go_simp; all_goals (with_reducible rfl)
      (try simp only [List.getElem_toArray, List.getElem_cons_succ, List.getElem_cons_zero, put_at, List.set])
      refine wpAnyL_one (i := 6) rfl (by kernel_rfl) (by kernel_rfl) hClosed (fun KK hK => ?_)
      go_simp
      refine (PA.out _ (B2.out.trans ((Below.refl _ _).drew.mono B2.out.size))).mono ?_
      rintro e w5 ⟨rfl, ha⟩
      have A5 := Lib.hid (PI.out _ _ (B2.out.trans ((Below.refl _ _).drew.mono B2.out.size)) ha)
      have A5b := PB.out _ _ (B2.out.trans ((Below.refl _ _).drew.mono B2.out.size)) ha
      have BR5 := Lib.hid (A5b.box BR2.out.drew HNR.out)
      clear ha A5b
      go_wp2_with fail
      refine hK.out _ _ ?_ (fun hClosed hHeld => ?_)
      · exact A5.out.now
      clear hK KK
      (first | simp only [List.getElem_toArray, List.getElem_cons_succ, List.getElem_cons_zero, put_at, List.set] | (try simp only [put_at, List.set]))
      refine wpAnyL_last rfl (by kernel_rfl) (by kernel_rfl) (fun KK hK => ?_)
      go_simp
      refine hK.out _ _ ?_
      (try simp only [put_at, List.set])
      go_wp2_with fail
      go_meet
      exact ⟨rfl, A5, BR5⟩
    obtain ⟨rfl, A5, BR5⟩ := hcut
    obtain ⟨R1, R2, A6⟩ := A5.out
    have NT := Lib.hid (note_at A6.lg (waitRc s t) (K := K + 1) (few_pause HFK.out s t nowh) (by omega) (by omega) hgn _ HY.out)
    have AA := Lib.hid A6
    have HNA : Hid ((⟨p1, p2, p3⟩ : Pl) ≠ nowh → G2.x = pauseI g.x s t nowh ∧ PlOk ⟨p1, p2, p3⟩) := Lib.hid (fun e => note_alone (g := ⟨g.D, g.n, pauseI g.x s t nowh⟩) HY.out e A6.lg)
    clear A6 A5 PA PI PB BR2 B2 HY
    unfold plV plC recL reqL waitRc at NT
    dsimp only at NT
    have r0 := BR5.out.cell 0
    have r1 := BR5.out.cell 1
    have r2 := BR5.out.cell 2
    have r3 := BR5.out.cell 3
    have r4 := BR5.out.cell 4
    have r5 := BR5.out.cell 5
    go_wp2_with fail
    refine NT.out.mono ?_
    rintro e w6 ⟨rfl, hc⟩
    have C6 : Hid (CmP w RD RL d L (K + 1) G2 w6) := Lib.hid ⟨AftL.trans AA.out hc.1, hc.2⟩
    clear hc AA NT r0 r1 r2 r3 r4 r5 BR5
    go_upto_region 9 with fail
    refine code_forget (fun W => Hid (Box W w6.heap.size #[.int .i64 p1, .int .i64 p2, .int .i64 p3] 76) ∧ Hid (Below w6.heap.size w6 W)) ⟨Lib.hid (Box.new w6 _ _), Lib.hid ((Below.refl w6.heap.size w6).alloc (Nat.le_refl _) _)⟩ ?_
    obtain ⟨ab, hab⟩ : ∃ p, w6.heap.size = p := ⟨_, rfl⟩
    have HAB := Lib.hid hab
    rw [hab]
    rintro w7 ⟨BA7, b7⟩
    rw [← HAB.out] at b7
    obtain ⟨R3, R4, k6⟩ := C6.out.1
    have A7 := Lib.hid (k6.later b7.out)
    have F7 := Lib.hid C6.out.2
    have HN7 : Hid (¬ (R3 ab ∨ R4 ab)) := Lib.hid (k6.lg.not_own (by have := HAB.out; omega))
    clear k6 C6 b7 hab
    obtain ⟨u, hu⟩ : ∃ u, (q && !decide ((⟨p1, p2, p3⟩ : Pl) = nowh)) = u := ⟨_, rfl⟩
    have HU := Lib.hid hu
    clear hu
    have NW := A7.out.lg.now
    have n0 : w7.cell? ⟨0, 0, none⟩ = some (.int .i64 9223372036854775807) := NW 0 (by decide)
    have n1 : w7.cell? ⟨0, 1, none⟩ = some (.int .i64 9223372036854775807) := NW 1 (by decide)
    have n2 : w7.cell? ⟨0, 2, none⟩ = some (.int .i64 0) := NW 2 (by decide)
    clear NW
    have a0 := BA7.out.cell 0
    have a1 := BA7.out.cell 1
    have a2 := BA7.out.cell 2
    go_cut [45] (fun v wx => v = .bool u ∧ wx = w7)
    case first =>
      cases q with
      | false =>
        obtain rfl : u = false := HU.out.symm
        go_wp2_with fail
        go_meet
        exact ⟨rfl, rfl⟩
      | true =>
        by_cases h1 : p1 = 9223372036854775807
        · subst h1
          by_cases h2 : p2 = 9223372036854775807
          · subst h2
            by_cases h3 : p3 = 0
            · subst h3
              obtain rfl : u = false := HU.out.symm
              go_wp2_with fail
              go_meet
              exact ⟨rfl, rfl⟩
            · obtain rfl : u = true := by rw [← HU.out, decide_eq_false (fun e => h3 (by injection e))]; rfl
              go_wp2_with fail
              go_meet
              exact ⟨rfl, rfl⟩
          · obtain rfl : u = true := by rw [← HU.out, decide_eq_false (fun e => h2 (by injection e))]; rfl
            go_wp2_with fail
            go_meet
            exact ⟨rfl, rfl⟩
        · obtain rfl : u = true := by rw [← HU.out, decide_eq_false (fun e => h1 (by injection e))]; rfl
          go_wp2_with fail
          go_meet
          exact ⟨rfl, rfl⟩
    obtain ⟨rfl, he1⟩ := hcut
    have he1 := he1.symm
    subst he1
    clear n0 n1 n2 a0 a1 a2
    cases u with
    | false =>
      have HE2 : Hid ((G1, E1) = (G2, E2)) := Lib.hid (by
        rw [HE.out, if_neg]
        rintro ⟨h1, h2⟩
        have h9 := HU.out
        rw [h1, decide_eq_false h2] at h9
        cases h9)
      clear HE HU
      go_wp2_with fail
      go_ret
      have h9 := HE2.out
      injection h9 with e1 e2
      subst e1 e2
      exact ⟨rfl, ⟨R3, R4, A7.out⟩, few_mono F7.out (Nat.le_succ _)⟩
    | true =>
      have HQP : Hid (q = true ∧ (⟨p1, p2, p3⟩ : Pl) ≠ nowh) := Lib.hid (by
        have h9 := HU.out
        rw [Bool.and_eq_true] at h9
        refine ⟨h9.1, fun e => ?_⟩
        rw [decide_eq_true e] at h9
        exact absurd h9.2 (by decide))
      have HE2 : Hid ((G1, E1) = ((⟨G2.D, G2.n, { G2.x with waits := pA G2.x.waits s ⟨t, ⟨p1, p2, p3⟩⟩ }⟩ : Lg), E2)) := Lib.hid (by rw [HE.out, if_pos HQP.out])
      obtain ⟨pm2, wm2, hi, hmi⟩ := A7.out.lg.lx.ix
      have hwm : ∃ m2, wm2 = some m2 := by
        rcases hi.waits with ⟨h1, h2⟩ | ⟨m2, h1, _⟩
        · exfalso
          rw [(HNA.out HQP.out.2).1] at h2
          unfold pauseI at h2
          rw [HQ.out, if_pos HQP.out.1] at h2
          have h8 := (pA_keys g.x.waits s ⟨t, nowh⟩ s).2 (Or.inl rfl)
          have h2 : pA g.x.waits s ⟨t, nowh⟩ = [] := h2
          rw [h2] at h8
          cases h8
        · exact ⟨m2, h1⟩
      obtain ⟨m2, rfl⟩ := hwm
      have HI7 := Lib.hid hi
      have HMI7 := Lib.hid hmi
      have HT0 : Hid (0 ≤ t) := Lib.hid (by
        have h9 := HQ.out
        rw [HQP.out.1] at h9
        unfold newsI at h9
        have h8 : tillI g.x s < t := by simpa using h9
        have := G.out.lx.ok.till0 s
        omega)
      have STO : Hid (∀ W, LgM W R3 R4 d L G2 → AftG RD RL d L w G2 W R3 R4 → IxM W 0 L 2 (logC d G2.n pm2 (some m2) G2.x.top) 70 pm2 (some m2) G2.x → ∃ w5, (Instr.mapUpdate 64 (.map (some m2)) (.string s) (wtV ⟨t, p1, p2, p3⟩)).run Tryz.prog W = .ok () w5 ∧ CmP w RD RL d L (K + 2) ⟨G2.D, G2.n, { G2.x with waits := pA G2.x.waits s ⟨t, ⟨p1, p2, p3⟩⟩ }⟩ w5) := Lib.hid (fun W hW hA h2 => by
        have h3 : WtM1 W m2 G2.x.waits := by
          rcases h2.waits with ⟨e, _⟩ | ⟨m3, e, h3⟩
          · cases e
          · cases e; exact h3
        obtain ⟨w5, h4, h5, h6⟩ := h3.store tyW s HOS.out ⟨t, p1, p2, p3⟩ (by have := F7.out.2; omega)
        refine ⟨w5, h4, ?_, few_wait F7.out _ _⟩
        exact AftL.trans hA (hW.waits h2 HMI7.out h6 h5 (hW.lx.ok.wait (HNA.out HQP.out.2).2 HT0.out (okI_iff HT.out).2 HSZ.out)))
      clear hi hmi HE HU HQ HNA HI HMI
      go_upto_region 10 with fail
      refine wp_region_last 9 (fun w' => LgM w' R3 R4 d L G2 ∧ AftG RD RL d L w G2 w' R3 R4 ∧ IxM w' 0 L 2 (logC d G2.n pm2 (some m2) G2.x.top) 70 pm2 (some m2) G2.x ∧ Box w' ab #[.int .i64 p1, .int .i64 p2, .int .i64 p3] 76) (by kernel_rfl) (⟨A7.out.lg.later (Below.refl _ _).drew, A7.out.later (Below.refl _ _).drew, HI7.out.drew, BA7.out.drew⟩) (fun hHeld hClosed => ?_)
      refine wpAnyL_take (i := 0) (v := ?_) rfl (by kernel_rfl) (by kernel_rfl) (by kernel_rfl) (by kernel_rfl) (fun _ _ _ h => h) (by kernel_rfl) hClosed (Or.inl ⟨by rfl, ?_⟩) hHeld (fun hClosed => ?_)
      rotate_left
      · intro wv hSw; go_simp; all_goals (with_reducible rfl)
      (try simp only [List.getElem_toArray, List.getElem_cons_zero, put_at, List.set])
      refine wpAnyL_take (i := 1) (v := ?_) rfl (by kernel_rfl) (by kernel_rfl) (by kernel_rfl) (by kernel_rfl) (fun _ _ _ h => h) (by kernel_rfl) hClosed (Or.inl ⟨by rfl, ?_⟩) hHeld (fun hClosed => ?_)
      rotate_left
      · intro wv hSw; go_simp; all_goals (with_reducible rfl)
      (try simp only [List.getElem_toArray, List.getElem_cons_succ, List.getElem_cons_zero, put_at, List.set])
      refine wpAnyL_take (i := 2) (v := ?_) rfl (by kernel_rfl) (by kernel_rfl) (by kernel_rfl) (by kernel_rfl) (fun _ _ _ h => h) (by kernel_rfl) hClosed (Or.inl ⟨by rfl, ?_⟩) hHeld (fun hClosed => ?_)
      rotate_left
      · intro wv hSw; go_simp; all_goals (with_reducible rfl)
      (try simp only [List.getElem_toArray, List.getElem_cons_succ, List.getElem_cons_zero, put_at, List.set])
      refine wpAnyL_take (i := 3) (v := ?_) rfl (by kernel_rfl) (by kernel_rfl) (by kernel_rfl) (by kernel_rfl) (fun _ _ _ h => h) (by kernel_rfl) hClosed (Or.inl ⟨by rfl, ?_⟩) hHeld (fun hClosed => ?_)
      rotate_left
      · intro wv hSw; go_simp; all_goals (with_reducible rfl)
      (try simp only [List.getElem_toArray, List.getElem_cons_succ, List.getElem_cons_zero, put_at, List.set])
      refine wpAnyL_take (i := 4) (v := ?_) rfl (by kernel_rfl) (by kernel_rfl) (by kernel_rfl) (by kernel_rfl) (fun _ _ _ h => h) (by kernel_rfl) hClosed (Or.inl ⟨by rfl, ?_⟩) hHeld (fun hClosed => ?_)
      rotate_left
      · intro wv hSw; have c1 : wv.cell? ⟨L, 3, none⟩ = some (.map (some m2)) := hSw.2.2.1.box.cell 3; have q0 := hSw.2.2.2.cell 0; have q1 := hSw.2.2.2.cell 1; have q2 := hSw.2.2.2.cell 2; go_simp; all_goals (with_reducible rfl)
      (try simp only [List.getElem_toArray, List.getElem_cons_succ, List.getElem_cons_zero, put_at, List.set])
      refine wpAnyL_take (i := 5) (v := ?_) rfl (by kernel_rfl) (by kernel_rfl) (by kernel_rfl) (by kernel_rfl) (fun _ _ _ h => h) (by kernel_rfl) hClosed (Or.inl ⟨by rfl, ?_⟩) hHeld (fun hClosed => ?_)
      rotate_left
      · intro wv hSw; go_simp; all_goals (with_reducible rfl)
      (try simp only [List.getElem_toArray, List.getElem_cons_succ, List.getElem_cons_zero, put_at, List.set])
      refine wpAnyL_take (i := 6) (v := ?_) rfl (by kernel_rfl) (by kernel_rfl) (by kernel_rfl) (by kernel_rfl) (fun _ _ _ h => h) (by kernel_rfl) hClosed (Or.inl ⟨by rfl, ?_⟩) hHeld (fun hClosed => ?_)
      rotate_left
      · intro wv hSw; go_simp; all_goals (with_reducible rfl)
      (try simp only [List.getElem_toArray, List.getElem_cons_succ, List.getElem_cons_zero, put_at, List.set])
      refine wpAnyL_take (i := 7) (v := ?_) rfl (by kernel_rfl) (by kernel_rfl) (by kernel_rfl) (by kernel_rfl) (fun _ _ _ h => h) (by kernel_rfl) hClosed (Or.inl ⟨by rfl, ?_⟩) hHeld (fun hClosed => ?_)
      rotate_left
      · intro wv hSw; have c1 : wv.cell? ⟨L, 3, none⟩ = some (.map (some m2)) := hSw.2.2.1.box.cell 3; have q0 := hSw.2.2.2.cell 0; have q1 := hSw.2.2.2.cell 1; have q2 := hSw.2.2.2.cell 2; go_simp; all_goals (with_reducible rfl)
      (try simp only [List.getElem_toArray, List.getElem_cons_succ, List.getElem_cons_zero, put_at, List.set])
      refine wpAnyL_take (i := 8) (v := ?_) rfl (by kernel_rfl) (by kernel_rfl) (by kernel_rfl) (by kernel_rfl) (fun _ _ _ h => h) (by kernel_rfl) hClosed (Or.inl ⟨by rfl, ?_⟩) hHeld (fun hClosed => ?_)
      rotate_left
      · intro wv hSw; go_simp; all_goals (with_reducible rfl)
      (try simp only [List.getElem_toArray, List.getElem_cons_succ, List.getElem_cons_zero, put_at, List.set])
      refine wpAnyL_last rfl (by kernel_rfl) (by kernel_rfl) (fun KK hK => ?_)
      obtain ⟨w5, hrun5, hc5⟩ := STO.out _ hHeld.1 hHeld.2.1 hHeld.2.2.1
      unfold wtV at hrun5
      dsimp only at hrun5
      go_simp
      refine hK.out _ _ ?_
      (try simp only [put_at, List.set])
      have F5 := Lib.hid hc5
      clear hc5 hHeld hClosed STO
      go_wp2_with fail
      go_ret
      have h9 := HE2.out
      injection h9 with e1 e2
      subst e1 e2
      exact ⟨rfl, F5.out⟩
  · have HE : Hid ((G1, E1) = (g, (2 : Int))) := Lib.hid (by rw [HX.out, wait_no hk1])
    clear HX hk1
    go_wp2_with fail
    go_ret
    have h9 := HE.out
    injection h9 with e1 e2
    subst e1 e2
    exact ⟨rfl, AftL.refl G.out B2.out, few_mono HFK.out (by omega)⟩
end Go.Proofs.YteinblpkcpjpnaaGreatDoor
/- Package spill, told by lists: the records of segments in their order, where they lie, and what replaying them gives. No program here. -/
namespace Go.Proofs.YteinblpkcpjpnaaGreatDoor
open Go Go.RowKit
set_option linter.unusedVariables false
set_option linter.unusedSimpArgs false
set_option maxRecDepth 10000

abbrev GoodL (rs : List Rc) : Prop := ∀ r ∈ rs, soundR r ∧ FitR r
theorem encR_byts {r : Rc} (h : soundR r) : Byts (encR r) := recB_byts (contR_byts h)
theorem flatR_app (a b : List Rc) : flatR (a ++ b) = flatR a ++ flatR b := by simp [flatR]
theorem flatR_one (r : Rc) : flatR [r] = encR r := by simp [flatR]
theorem flatR_byts : ∀ {rs : List Rc}, GoodL rs → Byts (flatR rs)
  | [], _ => by intro c hc; simp [flatR] at hc
  | r :: t, h => by
    rw [flatR_cons]
    exact (encR_byts (h r List.mem_cons_self).1).append (flatR_byts fun q hq => h q (List.mem_cons_of_mem _ hq))
theorem good_scan {b : List Int} (hb : Byts b) : GoodL (scanL b) := (scan_ok hb).1
theorem scan_app {rs : List Rc} (h : GoodL rs) {t : List Int} (ht : Byts t) : scanL (flatR rs ++ t) = rs ++ scanL t ∧ usedL (flatR rs ++ t) = (flatR rs).length + usedL t := by
  obtain ⟨h1, h2, h3, h4⟩ := scan_ok ht
  have hd : (flatR rs ++ t).drop ((flatR rs).length + usedL t) = t.drop (usedL t) := by rw [← List.drop_drop, List.drop_left' rfl]
  have hs : Scanned (flatR rs ++ t) (rs ++ scanL t) ((flatR rs).length + usedL t) := by
    refine ⟨fun r hr => ?_, ?_, ?_, ?_⟩
    · rcases List.mem_append.1 hr with hr | hr
      · exact h r hr
      · exact h1 r hr
    · rw [flatR_app, List.length_append]; rfl
    · rw [hd, flatR_app, List.append_assoc, ← h3]
    · rw [hd]; exact h4
  obtain ⟨e1, e2⟩ := scan_eq ((flatR_byts h).append ht) hs
  exact ⟨e1.symm, e2.symm⟩
theorem scan_nil : scanL [] = [] ∧ usedL [] = 0 := ⟨rfl, rfl⟩
theorem scan_flat {rs : List Rc} (h : GoodL rs) : scanL (flatR rs) = rs ∧ usedL (flatR rs) = (flatR rs).length := by
  have h9 := scan_app h Byts.nil
  rw [List.append_nil, scan_nil.1, scan_nil.2, List.append_nil, Nat.add_zero] at h9
  exact h9
theorem scan_one {r : Rc} (h : soundR r) (hf : FitR r) : scanL (encR r) = [r] ∧ usedL (encR r) = (encR r).length := by
  have h9 := scan_flat (rs := [r]) (fun q hq => by rw [List.mem_singleton.1 hq]; exact ⟨h, hf⟩)
  rw [flatR_one] at h9
  exact h9
theorem whole_flat {b : List Int} (hb : Byts b) (h : usedL b = b.length) : b = flatR (scanL b) := by
  have h3 := (scan_ok hb).2.2.1
  rw [h, List.drop_length, List.append_nil] at h3
  exact h3
theorem scan_more {b c : List Int} (hb : Byts b) (h : usedL b = b.length) (hc : Byts c) : scanL (b ++ c) = scanL b ++ scanL c ∧ usedL (b ++ c) = b.length + usedL c := by
  have h1 := whole_flat hb h
  have h2 := scan_app (good_scan hb) hc
  rw [← h1] at h2
  exact h2
/-- What is kept of bytes that are cut off holds the first of their records. -/
theorem scan_take {b : List Int} (hb : Byts b) (k : Nat) : ∃ t, scanL b = scanL (b.take k) ++ t := by
  have h1 := scan_ok (hb.take k)
  obtain ⟨g1, g2, g3, g4⟩ := h1
  have h2 : b = flatR (scanL (b.take k)) ++ ((b.take k).drop (usedL (b.take k)) ++ b.drop k) := by
    rw [← List.append_assoc, ← g3, List.take_append_drop]
  have h3 := (scan_app (good_scan (hb.take k)) ((hb.take k).drop (usedL (b.take k)) |>.append (hb.drop k))).1
  rw [← h2] at h3
  exact ⟨_, h3⟩
/-- The records of all segments, in order. -/
def logS (S : Sgs) : List Rc := S.flatMap fun p => scanL p.2
/-- A record lies in a place. -/
def AtP (S : Sgs) (p : Pl) (r : Rc) : Prop := ∃ u v, gD S p.seg = u ++ (encR r ++ v) ∧ p.off = (u.length : Int) ∧ p.size = ((encR r).length : Int) ∧ soundR r ∧ FitR r
theorem AtP.rd {S : Sgs} {p : Pl} {r : Rc} (h : AtP S p r) : rdL S p = some r := by
  obtain ⟨u, v, h1, h2, h3, h4, h5⟩ := h
  have hl : (gD S p.seg).length = u.length + ((encR r).length + v.length) := by rw [h1, List.length_append, List.length_append]
  have hp : partL S p = encR r := by
    unfold partL
    rw [h2, h3, hl, h1, Int.toNat_natCast, List.drop_left' rfl]
    have e : (min ((u.length : Int) + ((encR r).length : Int)) ((u.length + ((encR r).length + v.length) : Nat) : Int) - (u.length : Int)).toNat = (encR r).length := by omega
    rw [e, List.take_left' rfl]
  unfold rdL
  rw [if_neg (by rw [hl, h2]; omega), hp, (scan_one h4 h5).1]
theorem AtP.put {S : Sgs} {p : Pl} {r : Rc} (h : AtP S p r) (n : Int) (b : List Int) : AtP (pS S n (gD S n ++ b)) p r := by
  obtain ⟨u, v, h1, h2, h3, h4, h5⟩ := h
  unfold AtP
  rw [gD_put]
  by_cases e : p.seg = n
  · rw [if_pos e]
    refine ⟨u, v ++ b, ?_, h2, h3, h4, h5⟩
    rw [← e, h1, List.append_assoc, List.append_assoc]
  · rw [if_neg e]
    exact ⟨u, v, h1, h2, h3, h4, h5⟩
theorem AtP.to {S S' : Sgs} {p : Pl} {r : Rc} (h : AtP S p r) (hs : gD S' p.seg = gD S p.seg) : AtP S' p r := by
  unfold AtP
  rw [hs]
  exact h
/-- Records with their places. -/
def itm (seg : Int) : Int → List Rc → List (Rc × Pl)
  | _, [] => []
  | off, r :: t => (r, ⟨seg, off, (encR r).length⟩) :: itm seg (off + (encR r).length) t
theorem itm_fst (seg : Int) : ∀ (rs : List Rc) (off : Int), (itm seg off rs).map Prod.fst = rs
  | [], _ => rfl
  | r :: t, off => by rw [itm, List.map_cons, itm_fst seg t]
abbrev apI (x : Ix) (q : Rc × Pl) : Ix := applyI x q.1 q.2
theorem recsI_itm (seg : Int) : ∀ (rs : List Rc) (off : Int) (x : Ix), recsI seg off rs x = (itm seg off rs).foldl apI x
  | [], _, _ => rfl
  | r :: t, off, x => by rw [recsI, itm, List.foldl_cons, recsI_itm seg t]
theorem itm_at {seg : Int} : ∀ {rs : List Rc} {off : Int} {q : Rc × Pl}, q ∈ itm seg off rs → q.1 ∈ rs ∧ q.2.seg = seg ∧ q.2.size = ((encR q.1).length : Int) ∧ ∃ u v, flatR rs = u ++ (encR q.1 ++ v) ∧ q.2.off = off + (u.length : Int)
  | [], _, _, h => by cases h
  | r :: t, off, q, h => by
    rw [itm] at h
    rcases List.mem_cons.1 h with rfl | h
    · exact ⟨List.mem_cons_self, rfl, rfl, [], flatR t, by rw [flatR_cons]; rfl, by simp⟩
    · obtain ⟨h1, h2, h3, u, v, h4, h5⟩ := itm_at h
      refine ⟨List.mem_cons_of_mem _ h1, h2, h3, encR r ++ u, v, ?_, ?_⟩
      · rw [flatR_cons, h4, List.append_assoc]
      · rw [h5, List.length_append]; omega
def itms (S : Sgs) (l : List Int) : List (Rc × Pl) := l.flatMap fun s => itm s 0 (scanL (gD S s))
theorem foldl_flat {α β γ : Type} (f : γ → β → γ) (g : α → List β) : ∀ (l : List α) (x : γ), (l.flatMap g).foldl f x = l.foldl (fun x a => (g a).foldl f x) x
  | [], _ => rfl
  | a :: t, x => by rw [List.flatMap_cons, List.foldl_append, List.foldl_cons, foldl_flat f g t]
theorem replL_itms (S : Sgs) (l : List Int) : replL S l = (itms S l).foldl apI ix0 := by
  unfold replL itms
  rw [foldl_flat]
  congr 1
  funext x s
  exact recsI_itm s _ 0 x
theorem itms_at {S : Sgs} (hb : BytS S) {l : List Int} {q : Rc × Pl} (h : q ∈ itms S l) : AtP S q.2 q.1 ∧ q.2.seg ∈ l := by
  obtain ⟨s, hs, hq⟩ := List.mem_flatMap.1 h
  obtain ⟨h1, h2, h3, u, v, h4, h5⟩ := itm_at hq
  obtain ⟨g1, g2, g3, g4⟩ := scan_ok (hb s)
  refine ⟨⟨u, v ++ (gD S s).drop (usedL (gD S s)), ?_, by rw [h5]; omega, h3, (g1 _ h1).1, (g1 _ h1).2⟩, h2 ▸ hs⟩
  rw [h2]
  conv => lhs; rw [g3]
  rw [h4, List.append_assoc, List.append_assoc]
theorem itms_fst (S : Sgs) (l : List Int) : (itms S l).map Prod.fst = l.flatMap fun s => scanL (gD S s) := by
  unfold itms
  rw [List.map_flatMap]
  congr 1
  funext s
  exact itm_fst s _ 0
theorem gS_self {S : Sgs} (h : SS S) : ∀ p ∈ S, gS S p.1 = some p.2 := by
  unfold SS at h
  induction S with
  | nil => intro p hp; cases hp
  | cons x t ih =>
    obtain ⟨m, c⟩ := x
    obtain ⟨h1, h2⟩ := List.pairwise_cons.1 h
    intro p hp
    rcases List.mem_cons.1 hp with rfl | hp
    · rw [gS, if_pos rfl]
    · have := h1 p hp
      rw [gS, if_neg (by dsimp only at this; omega), ih h2 p hp]
theorem gD_self {S : Sgs} (h : SS S) {p : Int × List Int} (hp : p ∈ S) : gD S p.1 = p.2 := by unfold gD; rw [gS_self h p hp]; rfl
theorem flat_congr {α β : Type} {f g : α → List β} : ∀ {l : List α}, (∀ a ∈ l, f a = g a) → l.flatMap f = l.flatMap g
  | [], _ => rfl
  | a :: t, h => by rw [List.flatMap_cons, List.flatMap_cons, h a List.mem_cons_self, flat_congr (l := t) fun b hb => h b (List.mem_cons_of_mem _ hb)]
theorem log_segs {S : Sgs} (h : SS S) : (S.map Prod.fst).flatMap (fun s => scanL (gD S s)) = logS S := by
  unfold logS
  rw [List.flatMap_map]
  exact flat_congr fun p hp => by rw [gD_self h hp]
/-! What a list of records says: of a request, of a host, of the numbers. -/
def stQ (i : Int) (o : Option (Rc × Pl)) (q : Rc × Pl) : Option (Rc × Pl) := if q.1.kind = 1 ∧ q.1.id = i then some q else if q.1.kind = 2 ∧ q.1.id = i then none else o
def stP (i : Int) (o : Option Rc) (r : Rc) : Option Rc := if r.kind = 1 ∧ r.id = i then some r else if r.kind = 2 ∧ r.id = i then none else o
def lstP (i : Int) (rs : List Rc) : Option Rc := rs.foldl (stP i) none
def stW (h : ByteArray) (m : Int) (r : Rc) : Int := if r.kind = 3 ∧ r.host = h then max m r.till else m
def mxW (h : ByteArray) (rs : List Rc) : Int := rs.foldl (stW h) 0
def stT (m : Int) (r : Rc) : Int := if r.kind = 1 ∨ r.kind = 2 then max m r.id else m
def mxT (rs : List Rc) : Int := rs.foldl stT 0
theorem till_pause (x : Ix) (s : ByteArray) (t : Int) (p : Pl) (h : ByteArray) : tillI (pauseI x s t p) h = if s = h then max (tillI x h) t else tillI x h := by
  unfold pauseI
  by_cases hn : newsI x s t = true
  · rw [if_pos hn]
    have hlt : tillI x s < t := by unfold newsI at hn; simpa using hn
    unfold tillI at hlt ⊢
    dsimp only
    rw [gA_put]
    by_cases e : s = h
    · subst e
      rw [if_pos rfl, if_pos rfl]
      show t = _
      omega
    · rw [if_neg (fun e2 => e e2.symm), if_neg e]
  · rw [if_neg hn]
    have hle : t ≤ tillI x s := by
      unfold newsI at hn
      simpa using hn
    by_cases e : s = h
    · subst e
      rw [if_pos rfl]
      omega
    · rw [if_neg e]
theorem step_gen {x : Ix} {o : Int → Option (Rc × Pl)} {m : ByteArray → Int} {t : Int} (h1 : ∀ i, gA x.puts i = (o i).map Prod.snd) (h2 : ∀ h, tillI x h = m h) (h3 : x.top = t) (q : Rc × Pl) :
    (∀ i, gA (apI x q).puts i = (stQ i (o i) q).map Prod.snd) ∧ (∀ h, tillI (apI x q) h = stW h (m h) q.1) ∧ (apI x q).top = stT t q.1 := by
  obtain ⟨r, p⟩ := q
  unfold apI applyI stQ stW stT
  dsimp only
  by_cases k1 : r.kind = 1
  · rw [if_pos k1, if_pos (Or.inl k1)]
    refine ⟨fun i => ?_, fun h => ?_, by rw [h3]⟩
    · show gA (pA x.puts r.id p) i = _
      rw [gA_put]
      by_cases e : r.id = i
      · rw [if_pos e.symm, if_pos ⟨k1, e⟩]; rfl
      · rw [if_neg (fun e2 => e e2.symm), if_neg (fun e2 => e e2.2), if_neg (fun e2 => e e2.2)]; exact h1 i
    · rw [if_neg (by rintro ⟨e, _⟩; omega)]
      exact h2 h
  · rw [if_neg k1]
    by_cases k2 : r.kind = 2
    · rw [if_pos k2, if_pos (Or.inr k2)]
      refine ⟨fun i => ?_, fun h => ?_, by rw [h3]⟩
      · show gA (dA x.puts r.id) i = _
        rw [gA_del]
        by_cases e : r.id = i
        · rw [if_pos e.symm, if_neg (fun e2 => k1 e2.1), if_pos ⟨k2, e⟩]; rfl
        · rw [if_neg (fun e2 => e e2.symm), if_neg (fun e2 => k1 e2.1), if_neg (fun e2 => e e2.2)]; exact h1 i
      · rw [if_neg (by rintro ⟨e, _⟩; omega)]
        exact h2 h
    · rw [if_neg k2, if_neg (show ¬ (r.kind = 1 ∨ r.kind = 2) from fun e => e.elim k1 k2)]
      have hpt : ∀ y : Ix, y.puts = x.puts → ∀ i, gA y.puts i = (if r.kind = 1 ∧ r.id = i then some (r, p) else if r.kind = 2 ∧ r.id = i then none else o i).map Prod.snd := fun y hy i => by
        rw [hy, if_neg (fun e => k1 e.1), if_neg (fun e => k2 e.1)]; exact h1 i
      by_cases k3 : r.kind = 3
      · rw [if_pos k3]
        refine ⟨hpt _ (by unfold pauseI; split <;> rfl), fun h => ?_, ?_⟩
        · rw [till_pause, h2]
          by_cases e : r.host = h
          · rw [if_pos e, if_pos ⟨k3, e⟩]
          · rw [if_neg e, if_neg (fun e2 => e e2.2)]
        · rw [← h3]; unfold pauseI; split <;> rfl
      · rw [if_neg k3]
        exact ⟨hpt x rfl, fun h => by rw [if_neg (fun e => k3 e.1)]; exact h2 h, h3⟩
theorem fold_gen : ∀ (I : List (Rc × Pl)) {x : Ix} {o : Int → Option (Rc × Pl)} {m : ByteArray → Int} {t : Int}, (∀ i, gA x.puts i = (o i).map Prod.snd) → (∀ h, tillI x h = m h) → x.top = t →
    (∀ i, gA (I.foldl apI x).puts i = (I.foldl (stQ i) (o i)).map Prod.snd) ∧ (∀ h, tillI (I.foldl apI x) h = (I.map Prod.fst).foldl (stW h) (m h)) ∧ (I.foldl apI x).top = (I.map Prod.fst).foldl stT t
  | [], x, o, m, t, h1, h2, h3 => ⟨h1, h2, h3⟩
  | q :: I, x, o, m, t, h1, h2, h3 => by
    obtain ⟨g1, g2, g3⟩ := step_gen h1 h2 h3 q
    exact fold_gen I g1 g2 g3
theorem fold_stQ (i : Int) : ∀ (I : List (Rc × Pl)) (o : Option (Rc × Pl)), (I.foldl (stQ i) o).map Prod.fst = (I.map Prod.fst).foldl (stP i) (o.map Prod.fst)
  | [], o => rfl
  | q :: I, o => by
    rw [List.foldl_cons, fold_stQ i I, List.map_cons, List.foldl_cons]
    congr 1
    unfold stQ stP
    split
    · rfl
    · split <;> rfl
theorem fold_mem (i : Int) : ∀ {I : List (Rc × Pl)} {o : Option (Rc × Pl)} {q : Rc × Pl}, I.foldl (stQ i) o = some q → o = some q ∨ (q ∈ I ∧ q.1.kind = 1 ∧ q.1.id = i)
  | [], o, q, h => Or.inl h
  | a :: I, o, q, h => by
    rcases fold_mem i (I := I) h with h | ⟨h1, h2⟩
    · unfold stQ at h
      split at h
      · rename_i e
        injection h with h
        subst h
        exact Or.inr ⟨List.mem_cons_self, e⟩
      · split at h
        · cases h
        · exact Or.inl h
    · exact Or.inr ⟨List.mem_cons_of_mem _ h1, h2⟩
/-- An index agrees with what lies on the disk. -/
structure Agr (S : Sgs) (x : Ix) : Prop where
  puts : ∀ i p, gA x.puts i = some p → ∃ r, lstP i (logS S) = some r ∧ AtP S p r
  none : ∀ i, gA x.puts i = Option.none → lstP i (logS S) = Option.none
  waits : ∀ h, tillI x h = mxW h (logS S)
  top : x.top = mxT (logS S)
theorem repl_agr {S : Sgs} (hb : BytS S) {l : List Int} :
    (∀ i p, gA (replL S l).puts i = some p → ∃ r, lstP i (l.flatMap fun s => scanL (gD S s)) = some r ∧ AtP S p r ∧ p.seg ∈ l) ∧ (∀ i, gA (replL S l).puts i = none → lstP i (l.flatMap fun s => scanL (gD S s)) = none) ∧
    (∀ h, tillI (replL S l) h = mxW h (l.flatMap fun s => scanL (gD S s))) ∧ (replL S l).top = mxT (l.flatMap fun s => scanL (gD S s)) := by
  rw [replL_itms, ← itms_fst]
  obtain ⟨h1, h2, h3⟩ := fold_gen (itms S l) (x := ix0) (o := fun _ => none) (m := fun _ => 0) (t := 0) (fun _ => rfl) (fun _ => rfl) rfl
  refine ⟨fun i p hp => ?_, fun i hp => ?_, h2, h3⟩
  · rw [h1] at hp
    obtain ⟨q, hq, hqp⟩ := Option.map_eq_some_iff.1 hp
    have h4 := fold_stQ i (itms S l) none
    rw [hq] at h4
    have h5 := fold_mem i hq
    rcases h5 with h5 | ⟨h5, h6⟩
    · cases h5
    · obtain ⟨h7, h8⟩ := itms_at hb h5
      exact ⟨q.1, h4.symm, hqp ▸ h7, hqp ▸ h8⟩
  · rw [h1] at hp
    have h4 := fold_stQ i (itms S l) none
    rw [Option.map_eq_none_iff.1 hp] at h4
    exact h4.symm
theorem open_agr {S : Sgs} (hs : SS S) (hb : BytS S) : Agr S (replL S (S.map Prod.fst)) := by
  obtain ⟨h1, h2, h3, h4⟩ := repl_agr hb (l := S.map Prod.fst)
  rw [log_segs hs] at *
  exact ⟨fun i p hp => by obtain ⟨r, a, b, _⟩ := h1 i p hp; exact ⟨r, a, b⟩, h2, h3, h4⟩
theorem Agr.load {g : Lg} (h : Agr g.D.S g.x) (id : Int) : loadL g id = lstP id (logS g.D.S) := by
  unfold loadL atI
  cases hg : gA g.x.puts id with
  | none => rw [h.none id hg]; rfl
  | some p =>
    obtain ⟨r, h1, h2⟩ := h.puts id p hg
    rw [h1]
    exact h2.rd
/-! Sums of a list said step by step. -/
theorem lstP_app (i : Int) (a b : List Rc) : lstP i (a ++ b) = b.foldl (stP i) (lstP i a) := by unfold lstP; rw [List.foldl_append]
theorem mxW_app (h : ByteArray) (a b : List Rc) : mxW h (a ++ b) = b.foldl (stW h) (mxW h a) := by unfold mxW; rw [List.foldl_append]
theorem mxT_app (a b : List Rc) : mxT (a ++ b) = b.foldl stT (mxT a) := by unfold mxT; rw [List.foldl_append]
theorem log_app (a b : Sgs) : logS (a ++ b) = logS a ++ logS b := by unfold logS; rw [List.flatMap_append]
end Go.Proofs.YteinblpkcpjpnaaGreatDoor
/- Package spill, told by lists: a record is written; a log whose disk does not fail. No program here. -/
namespace Go.Proofs.YteinblpkcpjpnaaGreatDoor
open Go Go.RowKit
set_option linter.unusedVariables false
set_option linter.unusedSimpArgs false
set_option maxRecDepth 10000

theorem pS_end : ∀ {I : Sgs} {v : Int} {c : List Int} (b : List Int), (∀ p ∈ I, p.1 < v) → pS (I ++ [(v, c)]) v b = I ++ [(v, b)]
  | [], v, c, b, _ => by
    show pS [(v, c)] v b = [(v, b)]
    unfold pS
    rw [if_neg (by omega), if_pos rfl]
  | (m, c0) :: t, v, c, b, h => by
    have h1 : m < v := h (m, c0) List.mem_cons_self
    show pS ((m, c0) :: (t ++ [(v, c)])) v b = (m, c0) :: (t ++ [(v, b)])
    unfold pS
    rw [if_neg (by omega), if_neg (by omega), pS_end b fun p hp => h p (List.mem_cons_of_mem _ hp)]
theorem gS_none {S : Sgs} {n : Int} (h : ∀ p ∈ S, p.1 < n) : gS S n = none := by
  cases hg : gS S n with
  | none => rfl
  | some b =>
    exfalso
    have h1 : n ∈ S.map Prod.fst := gS_keys.2 (by rw [hg]; rfl)
    obtain ⟨p, hp, he⟩ := List.mem_map.1 h1
    have := h p hp
    omega
/-- Where there is room. -/
inductive RoomC (D : Ds) (n : Int) (size : Nat) (P : Pl) : Prop
  | last (I : Sgs) (v : Int) (c : List Int) (hS : D.S = I ++ [(v, c)]) (hI : ∀ p ∈ I, p.1 < v) (hw : usedL c = c.length) (hl : c.length + size ≤ 2048) (hP : P = ⟨v, (c.length : Int), size⟩) (hg : gD D.S v = c)
  | fresh (f : Int) (hP : P = ⟨f, 0, size⟩) (hn : (D.S.length : Int) < n) (hf : ∀ p ∈ D.S, p.1 < f) (hg : gS D.S f = none) (hd : f = (followL (segsL D)).1)
theorem room_cases {D : Ds} (hs : SS D.S) {n : Int} {size : Nat} {P : Pl} (h : roomL D n size = (P, true)) : RoomC D n size P := by
  unfold roomL at h
  split at h
  · cases h
  · split at h
    · rename_i p hp
      obtain ⟨v, hv, hl⟩ := Option.bind_eq_some_iff.1 hp
      unfold lastP at hl
      split at hl
      · rename_i hq
        injection hl with hl
        injection h with h _
        obtain ⟨l, hl2⟩ := List.getLast?_eq_some_iff.1 hv
        unfold segsL at hl2
        obtain ⟨I, J, h1, h2, h3⟩ := List.map_eq_append_iff.1 hl2
        obtain ⟨q, hq2, rfl⟩ : ∃ q, J = [q] ∧ q.1 = v := by
          cases J with
          | nil => cases h3
          | cons q t =>
            cases t with
            | nil => injection h3 with h3 _; exact ⟨q, rfl, h3⟩
            | cons a b => injection h3 with _ h3; cases h3
        obtain ⟨v, c⟩ := q
        subst hq2
        have hI : ∀ p ∈ I, p.1 < v := fun p hp => by
          have h9 := hs
          unfold SS at h9
          rw [h1] at h9
          exact (List.pairwise_append.1 h9).2.2 p hp _ (List.mem_singleton.2 rfl)
        have hg : gD D.S v = c := gD_self hs (p := (v, c)) (by rw [h1]; simp)
        dsimp only at hq hl
        rw [hg] at hq hl
        exact .last I v c h1 hI hq.1 (by have := hq.1; have := hq.2; omega) (by rw [← h, ← hl, hq.1]) hg
      · cases hl
    · unfold freshP at h
      injection h with h1 h2
      rw [Bool.and_eq_true] at h2
      have hf := follow_last hs rfl h2.1
      exact .fresh _ h1.symm (of_decide_eq_true h2.2) hf (gS_none hf) rfl
/-- What the disk holds once a record is appended where there is room. -/
theorem room_log {D : Ds} (hs : SS D.S) (hb : BytS D.S) {n : Int} {r : Rc} (h1 : soundR r) (h2 : FitR r) {P : Pl} (h : RoomC D n (encR r).length P) :
    logS (pS D.S P.seg (gD D.S P.seg ++ encR r)) = logS D.S ++ [r] ∧ AtP (pS D.S P.seg (gD D.S P.seg ++ encR r)) P r := by
  cases h with
  | last I v c hS hI hw hl hP hg =>
    subst hP
    dsimp only
    rw [hg]
    have e : pS D.S v (c ++ encR r) = I ++ [(v, c ++ encR r)] := by rw [hS]; exact pS_end _ hI
    rw [e]
    refine ⟨?_, c, [], ?_, rfl, rfl, h1, h2⟩
    · rw [log_app, hS, log_app, List.append_assoc]
      congr 1
      unfold logS
      rw [List.flatMap_singleton, List.flatMap_singleton]
      dsimp only
      rw [(scan_more (hg ▸ hb v) hw (encR_byts h1)).1, (scan_one h1 h2).1]
    · rw [← e, gD_put, if_pos rfl, List.append_nil]
  | fresh f hP hn hf hg hd =>
    subst hP
    dsimp only
    have e0 : gD D.S f = [] := by unfold gD; rw [hg]; rfl
    rw [e0, List.nil_append]
    have e : pS D.S f (encR r) = D.S ++ [(f, encR r)] := pS_last _ hf
    rw [e]
    refine ⟨?_, [], [], ?_, rfl, rfl, h1, h2⟩
    · rw [log_app]
      congr 1
      unfold logS
      rw [List.flatMap_singleton]
      exact (scan_one h1 h2).1
    · rw [← e, gD_put, if_pos rfl, List.append_nil]; rfl
theorem write_cases (D : Ds) (s : Int) (b : List Int) :
    ((writeD D s b).2 ≠ 0 ∧ (writeD D s b).1.S = D.S ∧ (writeD D s b).1.un = D.un) ∨
    ((writeD D s b).2 ≠ 0 ∧ (writeD D s b).1.S = pS D.S s (gD D.S s ++ b) ∧ (writeD D s b).1.un = D.un ++ [(s, b.length)]) ∨
    ((writeD D s b).2 = 0 ∧ (writeD D s b).1.S = pS D.S s (gD D.S s ++ b) ∧ (writeD D s b).1.un = []) := by
  unfold writeD
  by_cases h1 : apF D.S D.most s b.length = true
  · have e : appD D s b = (D, 5) := by unfold appD; rw [if_pos h1]
    rw [e, if_neg (by show (5 : Int) ≠ 0; decide)]
    exact Or.inl ⟨by show (5 : Int) ≠ 0; decide, rfl, rfl⟩
  · by_cases h2 : wfB D.beh D.fal = true
    · have e : appD D s b = (D.tick, 7) := by unfold appD; rw [if_neg h1, if_pos h2]
      rw [e, if_neg (by show (7 : Int) ≠ 0; decide)]
      exact Or.inl ⟨by show (7 : Int) ≠ 0; decide, rfl, rfl⟩
    · have e : appD D s b = (⟨pS D.S s (gD D.S s ++ b), D.un ++ [(s, b.length)], D.most, wfH D.beh, wfF D.beh D.fal⟩, 0) := by unfold appD; rw [if_neg h1, if_neg h2]
      rw [e, if_pos rfl]
      unfold syncD
      dsimp only
      split
      · exact Or.inr (Or.inl ⟨by show (7 : Int) ≠ 0; decide, rfl, rfl⟩)
      · exact Or.inr (Or.inr ⟨rfl, rfl, rfl⟩)
/-- A disk that does not fail and holds whole records; Z: more than any record; c: how many there may be. -/
structure DCalm (Z c : Nat) (D : Ds) : Prop where
  un : D.un = []
  beh : D.beh = 0
  fal : D.fal = 0
  ss : SS D.S
  byt : BytS D.S
  num : ∀ p ∈ D.S, 0 ≤ p.1 ∧ p.1 ≤ 20 * (c : Int)
  whole : ∀ p ∈ D.S, usedL p.2 = p.2.length
  full : ∀ p ∈ D.S.dropLast, 2048 ≤ p.2.length + Z
  tot : (D.S.map fun p => p.2.length).sum ≤ c * Z
theorem sum_ge_all : ∀ {l : Sgs} {m : Nat}, (∀ p ∈ l, m ≤ p.2.length) → l.length * m ≤ (l.map fun p => p.2.length).sum
  | [], m, _ => by simp
  | p :: t, m, h => by
    rw [List.length_cons, List.map_cons, List.sum_cons, Nat.succ_mul]
    have h1 := h p List.mem_cons_self
    have h2 := sum_ge_all (l := t) (m := m) fun q hq => h q (List.mem_cons_of_mem _ hq)
    omega
/-- How many segments there are at most. -/
theorem DCalm.segs {Z c : Nat} {D : Ds} (h : DCalm Z c D) : (D.S.length - 1) * (2048 - Z) ≤ c * Z := by
  have h1 := sum_ge_all (l := D.S.dropLast) (m := 2048 - Z) fun p hp => by have := h.full p hp; omega
  rw [List.length_dropLast] at h1
  refine Nat.le_trans h1 (Nat.le_trans ?_ h.tot)
  cases hS : D.S with
  | nil => simp
  | cons a t =>
    rw [← hS]
    have hne : D.S ≠ [] := by rw [hS]; exact List.cons_ne_nil _ _
    have e := List.dropLast_concat_getLast hne
    conv => rhs; rw [← e]
    rw [List.map_append, List.sum_append]
    omega
theorem follow_ok2 {D : Ds} {B : Int} (hB : B < 9223372036854775807) (h : ∀ p ∈ D.S, p.1 ≤ B) (hB0 : -1 ≤ B) : (followL (segsL D)).2 = true ∧ (followL (segsL D)).1 ≤ B + 1 := by
  unfold followL
  cases hl : (segsL D).getLast? with
  | none => exact ⟨rfl, by show (0 : Int) ≤ _; omega⟩
  | some v =>
    have hv := List.mem_of_getLast? hl
    obtain ⟨p, hp, hpv⟩ := List.mem_map.1 hv
    have := h p hp
    dsimp only
    rw [if_neg (by omega)]
    exact ⟨rfl, by show v + 1 ≤ _; omega⟩
theorem room_yes {D : Ds} {n : Int} {size : Nat} (h1 : (D.S.length : Int) < n) (h2 : (followL (segsL D)).2 = true) : ∃ P, roomL D n size = (P, true) := by
  unfold roomL
  rw [if_neg (by omega)]
  split
  · rename_i p _
    exact ⟨p, rfl⟩
  · unfold freshP
    rw [h2, decide_eq_true h1]
    exact ⟨_, rfl⟩
theorem calm_no : wfB 0 0 = false ∧ wfH 0 = 0 ∧ wfF 0 0 = 0 := by decide
theorem byt_log {S : Sgs} {n : Int} {b : List Int} (h : BytS S) (hb : Byts b) : BytS (pS S n b) := fun k => by
  rw [gD_put]
  split
  · exact hb
  · exact h k
theorem DCalm.write {Z c : Nat} {D : Ds} (h : DCalm Z c D) {n : Int} (hn : n ≤ D.most) {r : Rc} (h1 : soundR r) (h2 : FitR r) (hz : (encR r).length ≤ Z) (hz2 : Z ≤ 1100) {P : Pl} (hr : roomL D n (encR r).length = (P, true)) (hnum : (followL (segsL D)).1 ≤ 20 * (c : Int) + 1) (hnum0 : 0 ≤ (followL (segsL D)).1) :
    ∃ D', writeD D P.seg (encR r) = (D', 0) ∧ DCalm Z (c + 1) D' ∧ logS D'.S = logS D.S ++ [r] ∧ AtP D'.S P r ∧ (∀ p q, AtP D.S p q → AtP D'.S p q) ∧ D'.most = D.most ∧ D'.S.length ≤ D.S.length + 1 := by
  have hc := room_cases h.ss hr
  have hl := room_log h.ss h.byt h1 h2 hc
  have hap : apF D.S D.most P.seg (encR r).length = false := by
    unfold apF
    cases hc with
    | last I v c hS hI hw hl hP hg =>
      subst hP
      dsimp only
      have h9 : (gS D.S v).isSome = true := gS_keys.1 (by rw [hS]; simp)
      rw [h9, hg]
      simp only [Bool.not_true, Bool.false_and, Bool.false_or]
      exact decide_eq_false (by omega)
    | fresh f hP hn2 hf hg hd =>
      subst hP
      dsimp only
      have e0 : gD D.S f = [] := by unfold gD; rw [hg]; rfl
      rw [e0, decide_eq_false (by omega), decide_eq_false (by show ¬ (2048 < ((0 : Nat) : Int) + _); omega), Bool.and_false]
      rfl
  have e1 : appD D P.seg (encR r) = (⟨pS D.S P.seg (gD D.S P.seg ++ encR r), D.un ++ [(P.seg, (encR r).length)], D.most, 0, 0⟩, 0) := by
    unfold appD
    rw [hap, h.beh, h.fal, calm_no.1, calm_no.2.1, calm_no.2.2, if_neg (by decide), if_neg (by decide)]
  refine ⟨⟨pS D.S P.seg (gD D.S P.seg ++ encR r), [], D.most, 0, 0⟩, ?_, ⟨rfl, rfl, rfl, SS_put h.ss _ _, byt_log h.byt ((h.byt _).append (encR_byts h1)), ?_, ?_, ?_, ?_⟩, hl.1, hl.2, fun p q hp => hp.put _ _, rfl, ?_⟩
  · unfold writeD
    rw [e1, if_pos rfl]
    unfold syncD
    dsimp only
    rw [calm_no.1, calm_no.2.1, calm_no.2.2, if_neg (by decide)]
  all_goals dsimp only
  · intro p hp
    rcases pS_mem hp with rfl | hp
    · dsimp only
      cases hc with
      | last I v c0 hS hI hw hl hP hg =>
        have := h.num (v, c0) (by rw [hS]; simp)
        rw [hP]
        dsimp only at this ⊢
        omega
      | fresh f hP hn2 hf hg hd =>
        rw [hP]
        dsimp only
        omega
    · have := h.num p hp
      omega
  · intro p hp
    rcases pS_mem hp with rfl | hp
    · dsimp only
      have hw : usedL (gD D.S P.seg) = (gD D.S P.seg).length := by
        cases hc with
        | last I v c0 hS hI hw hl hP hg => rw [hP]; dsimp only; rw [hg]; exact hw
        | fresh f hP hn2 hf hg hd =>
          rw [hP]
          dsimp only
          unfold gD
          rw [hg]
          rfl
      rw [(scan_more (h.byt _) hw (encR_byts h1)).2, (scan_one h1 h2).2, List.length_append]
    · exact h.whole p hp
  · cases hc with
    | last I v c0 hS hI hw hl hP hg =>
      rw [hP]
      dsimp only
      have e : pS D.S v (gD D.S v ++ encR r) = I ++ [(v, c0 ++ encR r)] := by rw [hg, hS]; exact pS_end _ hI
      rw [e, List.dropLast_concat]
      have h9 := h.full
      rw [hS, List.dropLast_concat] at h9
      exact h9
    | fresh f hP hn2 hf hg hd =>
      rw [hP]
      dsimp only
      have e0 : gD D.S f = [] := by unfold gD; rw [hg]; rfl
      have e : pS D.S f (gD D.S f ++ encR r) = D.S ++ [(f, encR r)] := by rw [e0, List.nil_append]; exact pS_last _ hf
      rw [e, List.dropLast_concat]
      intro p hp
      by_cases hlast : p ∈ D.S.dropLast
      · exact h.full p hlast
      · -- the last one: it had no room
        cases hS : D.S with
        | nil => rw [hS] at hp; cases hp
        | cons a t =>
          have hne : D.S ≠ [] := by rw [hS]; exact List.cons_ne_nil _ _
          have hcat := List.dropLast_concat_getLast hne
          have hp2 : p = D.S.getLast hne := by
            rw [← hcat] at hp
            rcases List.mem_append.1 hp with hp | hp
            · exact absurd hp hlast
            · exact List.mem_singleton.1 hp
          have hpm : p ∈ D.S := hp
          have hlp : (segsL D).getLast? = some p.1 := by
            unfold segsL
            rw [List.getLast?_map, (List.getLast?_eq_some_iff.2 ⟨_, hcat.symm⟩ : D.S.getLast? = some (D.S.getLast hne)), hp2]
            rfl
          have hgp : gD D.S p.1 = p.2 := gD_self h.ss hpm
          unfold roomL at hr
          rw [if_neg (by omega), hlp] at hr
          have hno : lastP D (encR r).length p.1 = none := by
            unfold lastP
            rw [hgp]
            split
            · rename_i hq
              exfalso
              have h8 : lastP D (encR r).length p.1 = some ⟨p.1, (usedL p.2 : Int), (encR r).length⟩ := by
                unfold lastP
                rw [hgp, if_pos hq]
              rw [Option.bind_some, h8] at hr
              injection hr with hr _
              rw [hP] at hr
              injection hr with hr _ _
              have := hf p hpm
              omega
            · rfl
          unfold lastP at hno
          rw [hgp] at hno
          split at hno
          · cases hno
          · rename_i hq
            have hw := h.whole p hpm
            have : ¬ usedL p.2 + (encR r).length ≤ 2048 := fun e => hq ⟨hw, e⟩
            omega
  · cases hc with
    | last I v c0 hS hI hw hl hP hg =>
      rw [hP]
      dsimp only
      have e : pS D.S v (gD D.S v ++ encR r) = I ++ [(v, c0 ++ encR r)] := by rw [hg, hS]; exact pS_end _ hI
      have h9 := h.tot
      rw [hS, List.map_append, List.sum_append] at h9
      rw [e, List.map_append, List.sum_append, Nat.succ_mul]
      simp only [List.map_cons, List.map_nil, List.sum_cons, List.sum_nil, List.length_append] at h9 ⊢
      omega
    | fresh f hP hn2 hf hg hd =>
      rw [hP]
      dsimp only
      have e0 : gD D.S f = [] := by unfold gD; rw [hg]; rfl
      have e : pS D.S f (gD D.S f ++ encR r) = D.S ++ [(f, encR r)] := by rw [e0, List.nil_append]; exact pS_last _ hf
      have h9 := h.tot
      rw [e, List.map_append, List.sum_append, Nat.succ_mul]
      simp only [List.map_cons, List.map_nil, List.sum_cons, List.sum_nil] at h9 ⊢
      omega
  · rw [len_put h.ss]
    split <;> omega
end Go.Proofs.YteinblpkcpjpnaaGreatDoor
/- Package spill, told by lists: a log whose disk does not fail: Put, Done, Wait, Open. No program here. -/
namespace Go.Proofs.YteinblpkcpjpnaaGreatDoor
open Go Go.RowKit
set_option linter.unusedVariables false
set_option linter.unusedSimpArgs false
set_option maxRecDepth 10000

theorem ap_puts (x : Ix) (r : Rc) (P : Pl) (i : Int) : gA (applyI x r P).puts i = if r.kind = 1 ∧ r.id = i then some P else if r.kind = 2 ∧ r.id = i then none else gA x.puts i := by
  have h := (step_gen (x := x) (o := fun i => (gA x.puts i).map fun p => (r, p)) (m := tillI x) (t := x.top) (fun i => by cases gA x.puts i <;> rfl) (fun _ => rfl) rfl (r, P)).1 i
  have e : apI x (r, P) = applyI x r P := rfl
  rw [e] at h
  rw [h]
  unfold stQ
  dsimp only
  split
  · rfl
  · split
    · rfl
    · cases gA x.puts i <;> rfl
theorem ap_till (x : Ix) (r : Rc) (P : Pl) (h : ByteArray) : tillI (applyI x r P) h = stW h (tillI x h) r :=
  (step_gen (x := x) (o := fun i => (gA x.puts i).map fun p => (r, p)) (m := tillI x) (t := x.top) (fun i => by cases gA x.puts i <;> rfl) (fun _ => rfl) rfl (r, P)).2.1 h
theorem ap_top (x : Ix) (r : Rc) (P : Pl) : (applyI x r P).top = stT x.top r :=
  (step_gen (x := x) (o := fun i => (gA x.puts i).map fun p => (r, p)) (m := tillI x) (t := x.top) (fun i => by cases gA x.puts i <;> rfl) (fun _ => rfl) rfl (r, P)).2.2
theorem lstP_snoc (i : Int) (l : List Rc) (r : Rc) : lstP i (l ++ [r]) = stP i (lstP i l) r := by rw [lstP_app]; rfl
theorem mxW_snoc (h : ByteArray) (l : List Rc) (r : Rc) : mxW h (l ++ [r]) = stW h (mxW h l) r := by rw [mxW_app]; rfl
theorem mxT_snoc (l : List Rc) (r : Rc) : mxT (l ++ [r]) = stT (mxT l) r := by rw [mxT_app]; rfl
theorem agr_step {S S' : Sgs} {x : Ix} {r : Rc} {P : Pl} (h : Agr S x) (hl : logS S' = logS S ++ [r]) (ha : ∀ p q, AtP S p q → AtP S' p q) (hP : AtP S' P r) : Agr S' (applyI x r P) := by
  refine ⟨fun i p hp => ?_, fun i hp => ?_, fun s => ?_, ?_⟩
  · rw [ap_puts] at hp
    rw [hl, lstP_snoc]
    unfold stP
    split at hp
    · rename_i e
      injection hp with hp
      subst hp
      rw [if_pos e]
      exact ⟨r, rfl, hP⟩
    · rename_i e
      rw [if_neg e]
      split at hp
      · cases hp
      · rename_i e2
        rw [if_neg e2]
        obtain ⟨q, h1, h2⟩ := h.puts i p hp
        exact ⟨q, h1, ha p q h2⟩
  · rw [ap_puts] at hp
    rw [hl, lstP_snoc]
    unfold stP
    split at hp
    · cases hp
    · rename_i e
      rw [if_neg e]
      split at hp
      · rename_i e2
        rw [if_pos e2]
      · rename_i e2
        rw [if_neg e2]
        exact h.none i hp
  · rw [ap_till, hl, mxW_snoc, h.waits]
  · rw [ap_top, hl, mxT_snoc, h.top]
/-- Two indices that answer alike. -/
structure IxE (x y : Ix) : Prop where
  puts : ∀ i, gA x.puts i = gA y.puts i
  till : ∀ h, tillI x h = tillI y h
  top : x.top = y.top
theorem Agr.like {S : Sgs} {x y : Ix} (h : Agr S y) (e : IxE x y) : Agr S x :=
  ⟨fun i p hp => h.puts i p (by rw [← e.puts]; exact hp), fun i hp => h.none i (by rw [← e.puts]; exact hp), fun s => by rw [e.till]; exact h.waits s, by rw [e.top]; exact h.top⟩
theorem lst_mem {i : Int} : ∀ {rs : List Rc} {o : Option Rc} {r : Rc}, rs.foldl (stP i) o = some r → o = some r ∨ (r ∈ rs ∧ r.kind = 1 ∧ r.id = i)
  | [], o, r, h => Or.inl h
  | a :: t, o, r, h => by
    rcases lst_mem (rs := t) h with h | ⟨h1, h2⟩
    · unfold stP at h
      split at h
      · rename_i e
        injection h with h
        subst h
        exact Or.inr ⟨List.mem_cons_self, e⟩
      · split at h
        · cases h
        · exact Or.inl h
    · exact Or.inr ⟨List.mem_cons_of_mem _ h1, h2⟩
theorem lstP_mem {i : Int} {rs : List Rc} {r : Rc} (h : lstP i rs = some r) : r ∈ rs ∧ r.kind = 1 ∧ r.id = i := by
  rcases lst_mem h with h | h
  · cases h
  · exact h
theorem top_mono : ∀ (rs : List Rc) (t : Int), t ≤ rs.foldl stT t
  | [], t => Int.le_refl t
  | r :: rs, t => by
    have h1 := top_mono rs (stT t r)
    have h2 : t ≤ stT t r := by unfold stT; split <;> omega
    exact Int.le_trans h2 h1
theorem top_ge {rs : List Rc} {q : Rc} (hq : q ∈ rs) (hk : q.kind = 1 ∨ q.kind = 2) (t : Int) : q.id ≤ rs.foldl stT t := by
  induction rs generalizing t with
  | nil => cases hq
  | cons r rs ih =>
    rcases List.mem_cons.1 hq with rfl | hq
    · have h1 := top_mono rs (stT t q)
      have h2 : q.id ≤ stT t q := by unfold stT; rw [if_pos hk]; omega
      exact Int.le_trans h2 h1
    · exact ih hq _
theorem mxT_ge {rs : List Rc} {q : Rc} (hq : q ∈ rs) (hk : q.kind = 1 ∨ q.kind = 2) : q.id ≤ mxT rs := top_ge hq hk 0
theorem mxT_nn (rs : List Rc) : 0 ≤ mxT rs := top_mono rs 0
structure CLog (Z c : Nat) (g : Lg) : Prop where
  disk : DCalm Z c g.D
  agr : Agr g.D.S g.x
  most : g.n ≤ g.D.most
theorem CLog.num {Z c : Nat} {g : Lg} (h : CLog Z c g) (hc : c ≤ 1000000) : (followL (segsL g.D)).2 = true ∧ (followL (segsL g.D)).1 ≤ 20 * (c : Int) + 1 ∧ 0 ≤ (followL (segsL g.D)).1 := by
  have h1 := follow_ok2 (D := g.D) (B := 20 * (c : Int)) (by omega) (fun p hp => (h.disk.num p hp).2) (by omega)
  refine ⟨h1.1, h1.2, ?_⟩
  unfold followL
  cases hl : (segsL g.D).getLast? with
  | none => exact Int.le_refl 0
  | some v =>
    obtain ⟨p, hp, rfl⟩ := List.mem_map.1 (List.mem_of_getLast? hl)
    have := h.disk.num p hp
    dsimp only
    split
    · exact Int.le_refl 0
    · show 0 ≤ _ + (1 : Int); omega
/-- A record is written alone. -/
theorem CLog.write {Z c : Nat} {g : Lg} (h : CLog Z c g) (hc : c ≤ 1000000) (hn : (g.D.S.length : Int) < g.n) {r : Rc} (h1 : soundR r) (h2 : FitR r) (hz : (encR r).length ≤ Z) (hz2 : Z ≤ 1100) :
    ∃ P D', roomL g.D g.n (encR r).length = (P, true) ∧ P ≠ nowh ∧ writeD g.D P.seg (encR r) = (D', 0) ∧ logS D'.S = logS g.D.S ++ [r] ∧ ∀ x, IxE x (applyI g.x r P) → CLog Z (c + 1) ⟨D', g.n, x⟩ := by
  obtain ⟨n1, n2, n3⟩ := h.num hc
  obtain ⟨P, hP⟩ := room_yes (size := (encR r).length) hn n1
  obtain ⟨D', w1, w2, w3, w4, w5, w6, w7⟩ := h.disk.write h.most h1 h2 hz hz2 hP n2 n3
  refine ⟨P, D', hP, fun e => ?_, w1, w3, fun x hx => ⟨w2, (agr_step h.agr w3 w5 w4).like hx, by show g.n ≤ D'.most; rw [w6]; exact h.most⟩⟩
  have hs : P.seg = 9223372036854775807 := by rw [e]; rfl
  cases room_cases h.disk.ss hP with
  | last I v c0 hS hI hw hl hPP hg =>
    have := h.disk.num (v, c0) (by rw [hS]; simp)
    rw [hPP] at hs
    dsimp only at hs this
    omega
  | fresh f hPP hn2 hf hg hd =>
    rw [hPP] at hs
    dsimp only at hs
    omega
theorem CLog.put {Z c : Nat} {g : Lg} (h : CLog Z c g) (hc : c ≤ 1000000) (hn : (g.D.S.length : Int) < g.n) {r : Rc} (hk : r.kind = 1) (h1 : soundR r) (h2 : FitR r) (hz : (encR r).length ≤ Z) (hz2 : Z ≤ 1100) :
    ∃ g', putL g r = (g', 0) ∧ CLog Z (c + 1) g' ∧ logS g'.D.S = logS g.D.S ++ [r] ∧ g'.n = g.n := by
  obtain ⟨P, D', hP, _, hw, hl, hx⟩ := h.write hc hn h1 h2 hz hz2
  refine ⟨⟨D', g.n, { (topped g r.id).x with puts := pA (topped g r.id).x.puts r.id P }⟩, ?_, hx _ ?_, hl, rfl⟩
  · rw [put_yes h1 hP]
    unfold putTail
    rw [if_pos rfl, if_pos rfl]
    unfold putAt
    have e : (topped g r.id).D = g.D := rfl
    rw [e, hw, if_pos rfl]
    rfl
  · unfold applyI
    rw [if_pos hk]
    exact ⟨fun _ => rfl, fun _ => rfl, rfl⟩
theorem note_ok {g : Lg} {r : Rc} {P : Pl} {D' : Ds} (h1 : soundR r) (hP : roomL g.D g.n (encR r).length = (P, true)) (hw : writeD g.D P.seg (encR r) = (D', 0)) : noteL g r = (⟨D', g.n, g.x⟩, P, 0) := by
  rw [note_yes h1 (by rw [hP]), hP]
  dsimp only
  rw [hw, if_pos rfl]
theorem CLog.done {Z c : Nat} {g : Lg} (h : CLog Z c g) (hc : c ≤ 1000000) (hn : (g.D.S.length : Int) < g.n) {id : Int} {q : Rc} (hq : lstP id (logS g.D.S) = some q) (hid : id < 9223372036854775808) (hid0 : 0 ≤ id) (hz : 26 ≤ Z) (hz2 : Z ≤ 1100) :
    ∃ g', doneL g id = (g', 0) ∧ CLog Z (c + 1) g' ∧ logS g'.D.S = logS g.D.S ++ [⟨2, id, ⟨#[]⟩, ⟨#[]⟩, 0, 0⟩] ∧ g'.n = g.n := by
  have hs : soundR ⟨2, id, ⟨#[]⟩, ⟨#[]⟩, 0, 0⟩ := ⟨by show (1 : Int) ≤ 2; decide, by show (2 : Int) ≤ 3; decide, hid0, by show (0 : Int) ≤ 0; decide, by show (0 : Int) ≤ 0; decide, by show (0 : Int) ≤ 7; decide, by show (0 : Nat) ≤ 256; decide, by show (0 : Nat) ≤ 768; decide⟩
  have hlen : (encR ⟨2, id, ⟨#[]⟩, ⟨#[]⟩, 0, 0⟩).length = 26 := by unfold encR; rw [recB_length, contR_length]; rfl
  obtain ⟨P, D', hP, _, hw, hl, hx⟩ := h.write hc hn hs ⟨hid, by show (0 : Int) < 9223372036854775808; decide⟩ (by omega) hz2
  have hsome : (gA g.x.puts id).isSome = true := by
    cases hg : gA g.x.puts id with
    | none => rw [h.agr.none id hg] at hq; cases hq
    | some p => rfl
  refine ⟨⟨D', g.n, { g.x with puts := dA g.x.puts id }⟩, ?_, hx _ ?_, hl, rfl⟩
  · rw [done_yes hsome, note_ok (g := ⟨g.D, g.n, { g.x with puts := dA g.x.puts id }⟩) hs hP hw]
  · have htop : id ≤ g.x.top := by
      obtain ⟨m1, m2, m3⟩ := lstP_mem hq
      rw [h.agr.top, ← m3]
      exact mxT_ge m1 (Or.inl m2)
    unfold applyI
    rw [if_neg (by show ¬ (2 : Int) = 1; decide), if_pos rfl]
    exact ⟨fun _ => rfl, fun _ => rfl, by show g.x.top = max g.x.top id; omega⟩
theorem CLog.done_none {Z c : Nat} {g : Lg} (h : CLog Z c g) {id : Int} (hq : lstP id (logS g.D.S) = none) : doneL g id = (g, 4) := by
  refine done_no ?_
  cases hg : gA g.x.puts id with
  | none => rfl
  | some p =>
    obtain ⟨r, h1, _⟩ := h.agr.puts id p hg
    rw [h1] at hq
    cases hq
theorem CLog.wait {Z c : Nat} {g : Lg} (h : CLog Z c g) (hc : c ≤ 1000000) (hn : (g.D.S.length : Int) < g.n) {s : ByteArray} {t : Int} (ht0 : 0 ≤ t) (ht : t < 9223372036854775808) (hs : s.size ≤ 256) (hz : 26 + s.size ≤ Z) (hz2 : Z ≤ 1100) :
    ∃ g', waitL g s t = (g', 0) ∧ CLog Z (c + 1) g' ∧ logS g'.D.S = logS g.D.S ++ [waitRc s t] ∧ g'.n = g.n := by
  have h1 : soundR (waitRc s t) := ⟨by show (1 : Int) ≤ 3; decide, by show (3 : Int) ≤ 3; decide, by show (0 : Int) ≤ 0; decide, ht0, by show (0 : Int) ≤ 0; decide, by show (0 : Int) ≤ 7; decide, hs, by show (0 : Nat) ≤ _; omega⟩
  have h2 : FitR (waitRc s t) := ⟨by show (0 : Int) < _; decide, ht⟩
  have hlen : (encR (waitRc s t)).length = 26 + s.size := by
    unfold encR
    rw [recB_length, contR_length]
    show 6 + (20 + (s.size + 0)) = _
    omega
  obtain ⟨P, D', hP, hnw, hw, hl, hx⟩ := h.write hc hn h1 h2 (by omega) hz2
  have hnote : waitNote g s t = (⟨D', g.n, pauseI g.x s t nowh⟩, P, 0) := note_ok (g := ⟨g.D, g.n, pauseI g.x s t nowh⟩) h1 hP hw
  obtain ⟨q, hq⟩ : ∃ q, newsI g.x s t = q := ⟨_, rfl⟩
  have hwl := wait_yes h1 hq hnote
  have ap : applyI g.x (waitRc s t) P = pauseI g.x s t P := by
    unfold applyI
    rw [if_neg (by show ¬ (3 : Int) = 1; decide), if_neg (by show ¬ (3 : Int) = 2; decide), if_pos (by show (3 : Int) = 3; rfl)]
    rfl
  rw [ap] at hx
  cases q with
  | false =>
    rw [if_neg (by rintro ⟨e, _⟩; cases e)] at hwl
    refine ⟨_, hwl, hx _ ?_, hl, rfl⟩
    have e1 : pauseI g.x s t nowh = g.x := by unfold pauseI; rw [hq, if_neg (by decide)]
    have e2 : pauseI g.x s t P = g.x := by unfold pauseI; rw [hq, if_neg (by decide)]
    rw [e1, e2]
    exact ⟨fun _ => rfl, fun _ => rfl, rfl⟩
  | true =>
    rw [if_pos ⟨rfl, hnw⟩] at hwl
    refine ⟨_, hwl, hx _ ?_, hl, rfl⟩
    have e1 : pauseI g.x s t nowh = { g.x with waits := pA g.x.waits s ⟨t, nowh⟩ } := by unfold pauseI; rw [hq, if_pos rfl]
    have e2 : pauseI g.x s t P = { g.x with waits := pA g.x.waits s ⟨t, P⟩ } := by unfold pauseI; rw [hq, if_pos rfl]
    rw [e1, e2]
    refine ⟨fun _ => rfl, fun h' => ?_, rfl⟩
    show ((gA (pA (pA g.x.waits s ⟨t, nowh⟩) s ⟨t, P⟩) h').getD wt0).till = ((gA (pA g.x.waits s ⟨t, P⟩) h').getD wt0).till
    rw [gA_put, gA_put, gA_put]
    split
    · rfl
    · rfl
theorem CLog.open_ {Z c : Nat} {g : Lg} (h : CLog Z c g) : CLog Z c (openL g.D g.n) := ⟨h.disk, open_agr h.disk.ss h.disk.byt, h.most⟩
theorem CLog.new (Z : Nat) (most n : Int) (hn : n ≤ most) : CLog Z 0 (openL ⟨[], [], most, 0, 0⟩ n) :=
  ⟨⟨rfl, rfl, rfl, List.Pairwise.nil, fun _ => Byts.nil, fun p hp => (by cases hp), fun p hp => (by cases hp), fun p hp => (by cases hp), by simp [openL]⟩, open_agr (S := []) List.Pairwise.nil fun _ => Byts.nil, hn⟩
theorem nd_ap {x : Ix} (h : (x.puts.map Prod.fst).Nodup) (r : Rc) (p : Pl) : ((applyI x r p).puts.map Prod.fst).Nodup := by
  unfold applyI
  split
  · exact nd_put h _ _
  · split
    · exact nd_del h _
    · split
      · unfold pauseI; split <;> exact h
      · exact h
theorem nd_fold : ∀ (I : List (Rc × Pl)) {x : Ix}, (x.puts.map Prod.fst).Nodup → ((I.foldl apI x).puts.map Prod.fst).Nodup
  | [], x, h => h
  | q :: I, x, h => nd_fold I (nd_ap h q.1 q.2)
theorem nd_repl (S : Sgs) (l : List Int) : ((replL S l).puts.map Prod.fst).Nodup := by
  rw [replL_itms]
  exact nd_fold _ List.nodup_nil
end Go.Proofs.YteinblpkcpjpnaaGreatDoor
