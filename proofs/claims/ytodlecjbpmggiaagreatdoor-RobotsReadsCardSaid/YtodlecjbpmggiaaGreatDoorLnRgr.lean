/- The document's groups. -/
import Derived.Test.YtodlecjbpmggiaaGreatDoorLnGrp
import Derived.Test.YtodlecjbpmggiaaGreatDoorLnRdl
import Derived.Test.YtodlecjbpmggiaaGreatDoorLnRef
namespace Go.Proofs.YtodlecjbpmggiaaGreatDoor
open Go Go.RowKit
set_option linter.unusedVariables false
set_option linter.unusedSimpArgs false
set_option maxRecDepth 10000

theorem delG_low {g : Gp} {d : Int} (h : ¬ g.de < d) : delG g (some d) = g := by
  cases g with
  | mk a r e =>
    show Gp.mk a r (max e d) = _
    dsimp only at h
    rw [Int.max_eq_left (by omega)]
theorem delG_high {g : Gp} {d : Int} (h : g.de < d) : delG g (some d) = ⟨g.ag, g.ru, d⟩ := by
  show Gp.mk _ _ (max g.de d) = _
  rw [Int.max_eq_right (by omega)]
set_option maxHeartbeats 4000000 in
theorem rgroups_at (L : List (List Int × List Int)) (n : Nat) (hn : L.length = n) (hn2 : n ≤ 5000) (a : Option Addr) (cap : Nat) (hok : LnOk L) (w : World) (hr : RdLn w a L) :
    Calls Tryz.prog 19 #[.slice a n cap] w (GrP 61 L w) := by
  have HN := Lib.hid hn
  have HR := Lib.hid hr
  have OK := Lib.hid hok
  clear hr hok
  go_enter Tryz.func19, Tryz.ntmps19
  go_wp2_with fail
  go_loopw [3, 4, 5] (fun v t j wr => ∃ (i : Nat) (vs : Value) (told : Bool), i ≤ n ∧ v = vs ∧ t = .bool told ∧ j = .int .i64 (i : Int) ∧ w.heap.size ≤ wr.heap.size ∧ Hid (GrS 61 w wr L i vs told)) (fun _ _ j _ => n - (intOf j).toNat)
  case atStart => exact ⟨0, _, true, by omega, rfl, rfl, rfl, by simp, Lib.hid ⟨Or.inl ⟨some ⟨w.heap.size, 0, none⟩, 0, rfl, GsM.nil (Own.lit (cs := #[]) (Nat.le_refl _) (by omega) rfl), rfl, rfl⟩, (Below.refl _ _).alloc (Nat.le_refl _) _⟩⟩
  case round =>
    obtain ⟨i, vs, told, hi, hvs, rfl, rfl, sz, HS⟩ := hrel
    by_cases hlt : i < n
    · have hkd : decide ((i : Int) < (n : Int)) = true := decide_eq_true (by omega)
      obtain ⟨x, hx⟩ : ∃ x, L[i]? = some x := ⟨L[i]'(by have := HN.out; omega), List.getElem?_eq_getElem _⟩
      obtain ⟨k, v⟩ := x
      obtain ⟨bg, off, ha, hc⟩ := HR.out.later HS.out.bel
      have ha := ha (by intro e; rw [e] at hx; simp at hx)
      obtain ⟨c0, c1⟩ := hc i _ hx
      obtain ⟨bk, bv, lk, lv⟩ := OK.out _ (List.mem_of_getElem? hx)
      obtain ⟨sk, hsk⟩ : ∃ t, strL k = t := ⟨_, rfl⟩
      obtain ⟨sv, hsv⟩ : ∃ t, strL v = t := ⟨_, rfl⟩
      dsimp only at c0 c1 bk bv lk lv
      rw [hsk] at c0
      rw [hsv] at c1
      have HKK : Hid (btL sk = k) := Lib.hid (by rw [← hsk, btL_strL bk])
      have HVV : Hid (btL sv = v) := Lib.hid (by rw [← hsv, btL_strL bv])
      have HSV : Hid (strL v = sv) := Lib.hid hsv
      have ZV : Hid (sv.size ≤ 1000000000000000) := Lib.hid (by rw [← hsv, strL_size]; exact lv)
      have HT : Hid (grF (L.take (i + 1)) = grS (grF (L.take i)) (k, v)) := Lib.hid (by rw [List.take_add_one, hx]; exact grF_snoc _ _)
      subst ha
      obtain ⟨b0, hb0⟩ : ∃ b, (sk.toList == [117, 115, 101, 114, 45, 97, 103, 101, 110, 116]) = b := ⟨_, rfl⟩
      obtain ⟨b1, hb1⟩ : ∃ b, (sk.toList == [97, 108, 108, 111, 119]) = b := ⟨_, rfl⟩
      obtain ⟨b2, hb2⟩ : ∃ b, (sk.toList == [100, 105, 115, 97, 108, 108, 111, 119]) = b := ⟨_, rfl⟩
      obtain ⟨b3, hb3⟩ : ∃ b, (sk.toList == [99, 114, 97, 119, 108, 45, 100, 101, 108, 97, 121]) = b := ⟨_, rfl⟩
      have E0 : Hid (b0 = decide (k = kUA)) := Lib.hid (by rw [← hb0, Bool.eq_iff_iff, ln_lit, HKK.out, decide_eq_true_eq]; exact Iff.rfl)
      have E1 : Hid (b1 = decide (k = kAL)) := Lib.hid (by rw [← hb1, Bool.eq_iff_iff, ln_lit, HKK.out, decide_eq_true_eq]; exact Iff.rfl)
      have E2 : Hid (b2 = decide (k = kDI)) := Lib.hid (by rw [← hb2, Bool.eq_iff_iff, ln_lit, HKK.out, decide_eq_true_eq]; exact Iff.rfl)
      have E3 : Hid (b3 = decide (k = kCD)) := Lib.hid (by rw [← hb3, Bool.eq_iff_iff, ln_lit, HKK.out, decide_eq_true_eq]; exact Iff.rfl)
      clear hc hx bk bv lk lv hsk hsv
      have ix0 : (0 : Int) ≤ (i : Int) := by omega
      have ix1 : (i : Int) < (n : Int) := by omega
      go_upto_region 6 with fail
      go_quiet (fail)
      go_upto_region 7 with fail
      refine code_forget (fun wx => Hid (GrM 61 w.heap.size wx vs told (grF (L.take i)) i) ∧ Hid (Below w.heap.size w wx) ∧ w.heap.size ≤ wx.heap.size) ⟨Lib.hid (HS.out.st.later (ln_drewN (Below.refl _ _) _)), Lib.hid (ln_drewN HS.out.bel _), sz⟩ ?_
      clear HS c0 c1 sz
      rintro w1 ⟨HS1, B1, sz1⟩
      cases b0 with
      | true =>
        have hk : k = kUA := of_decide_eq_true E0.out.symm
        subst hk
        clear E0 E1 E2 E3 hb1 hb2 hb3
        go_upto_if 30 with fail
        go_cut [3] from 12 to 114 (fun v' wx => ∃ (O M c2 : Nat) (done : List (Gp × GpA)) (cur : Gp × GpA), v' = .slice (some ⟨O, 0, none⟩) (done.length + 1) c2 ∧ w.heap.size ≤ wx.heap.size ∧ Hid (GM 61 w.heap.size wx O M c2 done cur) ∧ Hid (Below w.heap.size w wx) ∧ Hid (grS (grF (L.take i)) (kUA, v) = (done.map (·.1), some ⟨cur.1.ag ++ [v.map lwI], cur.1.ru, cur.1.de⟩, false)) ∧ done.length ≤ i ∧ cur.1.ag.length ≤ i)
        case first =>
          cases told with
          | true =>
            obtain ⟨a', cap', LL, d, c, hv', HG, hs, hd, hle⟩ := HS1.out.yes
            rw [hv'] at hvs
            subst hvs
            have HG := Lib.hid HG
            have OG := Lib.hid HG.out.own
            have HZ : Hid (gsC LL ++ (#[Value.slice none 0 0, .slice none 0 0, .int .i64 0] : Array Value).toList = gsC (LL ++ [gp0])) := Lib.hid (by rw [gsC_app]; rfl)
            have HSP : Hid (grS (grF (L.take i)) (kUA, v) = (LL.map (·.1), some ⟨gp0.1.ag ++ [v.map lwI], gp0.1.ru, gp0.1.de⟩, false)) := Lib.hid (by rw [ua_new hs, hd]; rfl)
            have post : Hid (∀ (g cap2 : Nat) (w3 : World), Own w3 w.heap.size 61 3 (some ⟨g, 0, none⟩) (LL.length + 1) cap2 (gsC (LL ++ [gp0])) → w1.grownBy w3 (a'.map (·.block)) → Below w.heap.size w1 w3 → (a'.map (·.block) = some g ∨ g = w1.heap.size + 1) → w.heap.size ≤ w3.heap.size ∧ Hid (GM 61 w.heap.size w3 g w3.heap.size cap2 LL gp0) ∧ Hid (Below w.heap.size w w3)) := Lib.hid (fun g cap2 w3 q1 q2 q3 q4 =>
              ⟨Nat.le_trans sz1 q3.size, Lib.hid (HG.out.new q1 q2 (by rcases q4 with q4 | q4; exact Or.inl q4; exact Or.inr (by omega))), Lib.hid (B1.out.trans q3)⟩)
            clear hv' hs hd HS1 B1
            go_wp2_with (at_builtin; refine wpList_app1 rowRG rfl _ _ rfl w.heap.size a' LL.length cap' (gsC LL) rfl OG.out #[.slice none 0 0, .slice none 0 0, .int .i64 0] rfl rfl g_one (by omega) (by decide) sz1 (LL.length + 1) rfl (gsC (LL ++ [gp0])) HZ.out ?_; rintro g cap2 w3 q1 q2 q3 q4)
            obtain ⟨p1, p2, p4⟩ := post.out g cap2 w3 q1 q2 q3 q4
            clear q1 q2 q3 q4 post
            go_wp2
            go_meet
            exact ⟨g, w3.heap.size, cap2, LL, gp0, rfl, p1, p2, p4, HSP, hle, by simp [gp0]⟩
          | false =>
            obtain ⟨O, M, cap', done, cur, hv', HG, hs, hl1, hl2⟩ := HS1.out.no
            rw [hv'] at hvs
            subst hvs
            have HG := Lib.hid HG
            have HSP : Hid (grS (grF (L.take i)) (kUA, v) = (done.map (·.1), some ⟨cur.1.ag ++ [v.map lwI], cur.1.ru, cur.1.de⟩, false)) := Lib.hid (ua_some hs)
            clear hv' hs HS1
            go_wp2
            go_meet
            exact ⟨O, M, cap', done, cur, rfl, sz1, HG, B1, HSP, by omega, hl2⟩
        case rest =>
          clear hvs HS1 B1 sz1
          obtain ⟨O, M, c2, done, cur, rfl, szc, GC, BC, HSP, hl1, hl2⟩ := hcut
          obtain ⟨w1, hw1⟩ : ∃ W, wc = W := ⟨_, rfl⟩
          rw [hw1] at szc GC BC ⊢
          clear hw1
          obtain ⟨D, hD⟩ : ∃ D, done.length * 3 = D := ⟨_, rfl⟩
          have g0 : w1.cell? ⟨O, D, none⟩ = some (.slice cur.2.aa cur.1.ag.length cur.2.ac) := by rw [← hD]; exact GC.out.cell 0 (by omega)
          have fr0 : w1.frozen? ⟨O, D, none⟩ = false := GC.out.own.free _
          have gl2 : O < w1.heap.size := Nat.lt_of_lt_of_le GC.out.oM GC.out.Mw
          obtain ⟨lw, hlw⟩ : ∃ t, strL (v.map lwI) = t := ⟨_, rfl⟩
          have LW := Lib.hid (fun W : World => rlower_at sv lw (by unfold lowB; rw [HVV.out]; exact hlw) ZV.out W)
          have HZ : Hid (agC cur.1.ag ++ (#[Value.string lw] : Array Value).toList = agC (cur.1.ag ++ [v.map lwI])) := Lib.hid (by rw [agC_app, ← hlw]; rfl)
          have HBW : Hid (w.heap.size ≤ w1.heap.size) := Lib.hid szc
          have NO : Hid (some O ≠ cur.2.aa.map (·.block)) := Lib.hid (fun e => by
            have := GC.out.ca O (own_block GC.out.rows.a e.symm)
            have := GC.out.oM
            omega)
          have QF : Hid (∀ wq, Below w1.drew.heap.size w1.drew wq → GM 61 w.heap.size wq O M c2 done cur ∧ w1.heap.size ≤ wq.heap.size ∧ Hid (Below w.heap.size w wq)) := Lib.hid (fun wq hb => ⟨(GC.out.later ((Below.refl _ _).drew)).later hb, hb.size, Lib.hid ((BC.out.trans ((Below.refl _ _).drew)).trans (hb.mono HBW.out))⟩)
          have LEAF : Hid (∀ (wq : World) (g cap' : Nat) (w3 : World), GM 61 w.heap.size wq O M c2 done cur → Hid (Below w.heap.size w wq) → Own w3 w.heap.size 9 1 (some ⟨g, 0, none⟩) (cur.1.ag.length + 1) cap' (agC (cur.1.ag ++ [v.map lwI])) → wq.grownBy w3 (cur.2.aa.map (·.block)) → Below w.heap.size wq w3 → (cur.2.aa.map (·.block) = some g ∨ g = wq.heap.size + 1) → Hid (GrS 61 w (w3.setCell ⟨O, D, none⟩ (.slice (some ⟨g, 0, none⟩) (cur.1.ag.length + 1) cap')) L (i + 1) (.slice (some ⟨O, 0, none⟩) (done.length + 1) c2) false) ∧ w.heap.size ≤ (w3.setCell ⟨O, D, none⟩ (.slice (some ⟨g, 0, none⟩) (cur.1.ag.length + 1) cap')).heap.size) := Lib.hid (fun wq g cap' w3 q1 q2 q3 q4 q5 q6 => by
            have q7 := q1.agent (z := v.map lwI) q3 q4 (by rcases q6 with q6 | q6; exact Or.inl q6; exact Or.inr (by omega))
            rw [Nat.add_zero, hD] at q7
            have q8 : Below w.heap.size w (w3.setCell ⟨O, D, none⟩ (.slice (some ⟨g, 0, none⟩) (cur.1.ag.length + 1) cap')) := (q2.out.trans q5).setCell (p := ⟨O, D, none⟩) q1.BO _
            refine ⟨Lib.hid ⟨Or.inr ⟨O, M, c2, done, _, rfl, q7, ?_, by omega, ?_⟩, q8⟩, q8.size⟩
            · rw [HT.out, HSP.out]
            · show (cur.1.ag ++ [v.map lwI]).length ≤ i + 1
              rw [List.length_append]
              simp
              omega)
          have hw : IntKind.i64.wrap (done.length : Int) = (done.length : Int) := IntWalk.i64_in _ (by omega)
          have jx0 : (0 : Int) ≤ (done.length : Int) := by omega
          have jx1 : (done.length : Int) < (done.length : Int) + 1 := by omega
          clear HT HSP GC BC hlw
          go_upto_region 11 with fail
          refine wp_region_last 17 (fun w' => w'.heap[O]? = w1.heap[O]?) (by kernel_rfl) (rfl) (fun hHeld hClosed => ?_)
          refine wpAnyL_take (i := 0) (v := ?_) rfl (by kernel_rfl) (by kernel_rfl) (by kernel_rfl) (by kernel_rfl) (fun _ _ _ h => h) (by kernel_rfl) hClosed (Or.inl ⟨by rfl, ?_⟩) hHeld (fun hClosed => ?_)
          rotate_left
          · intro wv hSw; go_simp; all_goals (with_reducible rfl)
          (try simp only [List.getElem_toArray, List.getElem_cons_zero, put_at, List.set])
          refine wpAnyL_take (i := 1) (v := ?_) rfl (by kernel_rfl) (by kernel_rfl) (by kernel_rfl) (by kernel_rfl) (fun _ _ _ h => h) (by kernel_rfl) hClosed (Or.inl ⟨by rfl, ?_⟩) hHeld (fun hClosed => ?_)
          rotate_left
          · intro wv hSw; go_simp; all_goals (with_reducible rfl)
          (try simp only [List.getElem_toArray, List.getElem_cons_succ, List.getElem_cons_zero, put_at, List.set])
          refine wpAnyL_take (i := 2) (v := ?_) rfl (by kernel_rfl) (by kernel_rfl) (by kernel_rfl) (by kernel_rfl) (fun _ _ _ h => h) (by kernel_rfl) hClosed (Or.inl ⟨by rfl, ?_⟩) hHeld (fun hClosed => ?_)
          rotate_left
          · intro wv hSw; go_simp; all_goals (with_reducible rfl)
          (try simp only [List.getElem_toArray, List.getElem_cons_succ, List.getElem_cons_zero, put_at, List.set])
          refine wpAnyL_take (i := 3) (v := ?_) rfl (by kernel_rfl) (by kernel_rfl) (by kernel_rfl) (by kernel_rfl) (fun _ _ _ h => h) (by kernel_rfl) hClosed (Or.inl ⟨by rfl, ?_⟩) hHeld (fun hClosed => ?_)
          rotate_left
          · intro wv hSw; go_simp; all_goals (with_reducible rfl)
          (try simp only [List.getElem_toArray, List.getElem_cons_succ, List.getElem_cons_zero, put_at, List.set])
          refine wpAnyL_take (i := 4) (v := ?_) rfl (by kernel_rfl) (by kernel_rfl) (by kernel_rfl) (by kernel_rfl) (fun _ _ _ h => h) (by kernel_rfl) hClosed (Or.inl ⟨by rfl, ?_⟩) hHeld (fun hClosed => ?_)
          rotate_left
          · intro wv hSw; go_simp; all_goals (with_reducible rfl)
          (try simp only [List.getElem_toArray, List.getElem_cons_succ, List.getElem_cons_zero, put_at, List.set])
          refine wpAnyL_take (i := 5) (v := ?_) rfl (by kernel_rfl) (by kernel_rfl) (by kernel_rfl) (by kernel_rfl) (fun _ _ _ h => h) (by kernel_rfl) hClosed (Or.inl ⟨by rfl, ?_⟩) hHeld (fun hClosed => ?_)
          rotate_left
          · intro wv hSw; go_simp; all_goals (with_reducible rfl)
          (try simp only [List.getElem_toArray, List.getElem_cons_succ, List.getElem_cons_zero, put_at, List.set])
          refine wpAnyL_take (i := 6) (v := ?_) rfl (by kernel_rfl) (by kernel_rfl) (by kernel_rfl) (by kernel_rfl) (fun _ _ _ h => h) (by kernel_rfl) hClosed (Or.inl ⟨by rfl, ?_⟩) hHeld (fun hClosed => ?_)
          rotate_left
          · intro wv hSw; go_simp; all_goals (with_reducible rfl)
          (try simp only [List.getElem_toArray, List.getElem_cons_succ, List.getElem_cons_zero, put_at, List.set])
          refine wpAnyL_take (i := 7) (v := ?_) rfl (by kernel_rfl) (by kernel_rfl) (by kernel_rfl) (by kernel_rfl) (fun _ _ _ h => h) (by kernel_rfl) hClosed (Or.inl ⟨by rfl, ?_⟩) hHeld (fun hClosed => ?_)
          rotate_left
          · intro wv hSw; go_simp; all_goals (with_reducible rfl)
          (try simp only [List.getElem_toArray, List.getElem_cons_succ, List.getElem_cons_zero, put_at, List.set])
          refine wpAnyL_take (i := 8) (v := ?_) rfl (by kernel_rfl) (by kernel_rfl) (by kernel_rfl) (by kernel_rfl) (fun _ _ _ h => h) (by kernel_rfl) hClosed (Or.inl ⟨by rfl, ?_⟩) hHeld (fun hClosed => ?_)
          rotate_left
          · intro wv hSw; go_simp; all_goals (with_reducible rfl)
          (try simp only [List.getElem_toArray, List.getElem_cons_succ, List.getElem_cons_zero, put_at, List.set])
          refine wpAnyL_take (i := 9) (v := ?_) rfl (by kernel_rfl) (by kernel_rfl) (by kernel_rfl) (by kernel_rfl) (fun _ _ _ h => h) (by kernel_rfl) hClosed (Or.inl ⟨by rfl, ?_⟩) hHeld (fun hClosed => ?_)
          rotate_left
          · intro wv hSw; go_simp; all_goals (with_reducible rfl)
          (try simp only [List.getElem_toArray, List.getElem_cons_succ, List.getElem_cons_zero, put_at, List.set])
          refine wpAnyL_take (i := 10) (v := ?_) rfl (by kernel_rfl) (by kernel_rfl) (by kernel_rfl) (by kernel_rfl) (fun _ _ _ h => h) (by kernel_rfl) hClosed (Or.inl ⟨by rfl, ?_⟩) hHeld (fun hClosed => ?_)
          rotate_left
          · intro wv hSw; have e0 := cell_blk hSw D; rw [g0] at e0; go_simp; all_goals (with_reducible rfl)
          (try simp only [List.getElem_toArray, List.getElem_cons_succ, List.getElem_cons_zero, put_at, List.set])
          refine wpAnyL_take (i := 11) (v := ?_) rfl (by kernel_rfl) (by kernel_rfl) (by kernel_rfl) (by kernel_rfl) (fun _ _ _ h => h) (by kernel_rfl) hClosed (Or.inl ⟨by rfl, ?_⟩) hHeld (fun hClosed => ?_)
          rotate_left
          · intro wv hSw; go_simp; all_goals (with_reducible rfl)
          (try simp only [List.getElem_toArray, List.getElem_cons_succ, List.getElem_cons_zero, put_at, List.set])
          refine wpAnyL_one (i := 12) rfl (by kernel_rfl) (by kernel_rfl) hClosed (fun KK hK => ?_)
          go_simp
          refine (LW.out _).mono ?_
          rintro e wq ⟨rfl, hbq⟩
          go_wp2_with fail
          refine hK.out _ _ ?_ (fun hClosed hHeld => ?_)
          · exact (hbq.block O gl2).trans hHeld
          clear hK KK
          (first | simp only [List.getElem_toArray, List.getElem_cons_succ, List.getElem_cons_zero, put_at, List.set] | (try simp only [put_at, List.set]))
          obtain ⟨GQ, szQ, BQ⟩ := QF.out _ hbq
          have HQ := Lib.hid hHeld
          clear hbq
          refine wpAnyL_one (i := 13) rfl (by kernel_rfl) (by kernel_rfl) hClosed (fun KK hK => ?_)
          go_simp
          refine hK.out _ _ ?_ (fun hClosed hHeld => ?_)
          · exact (Below.heap_alloc wq _ O (Nat.lt_of_lt_of_le gl2 szQ)).trans hHeld
          clear hK KK
          (first | simp only [List.getElem_toArray, List.getElem_cons_succ, List.getElem_cons_zero, put_at, List.set] | (try simp only [put_at, List.set]))
          refine wpAnyL_one (i := 14) rfl (by kernel_rfl) (by kernel_rfl) hClosed (fun KK hK => ?_)
          refine step_app1 rowT rfl _ _ rfl w.heap.size cur.2.aa cur.1.ag.length cur.2.ac (agC cur.1.ag) rfl GQ.rows.a #[.string lw] rfl rfl (s_one _) (by omega) (by decide) (Nat.le_trans HBW.out szQ) (cur.1.ag.length + 1) rfl (agC (cur.1.ag ++ [v.map lwI])) HZ.out ?_
          rintro g cap' w3 ow3 gr3 bl3 lc3
          refine hK.out _ _ ?_ (fun hClosed hHeld => ?_)
          · exact (gr3.block O (Nat.lt_of_lt_of_le gl2 szQ) NO.out).trans HQ.out
          clear hK KK
          (first | simp only [List.getElem_toArray, List.getElem_cons_succ, List.getElem_cons_zero, put_at, List.set] | (try simp only [put_at, List.set]))
          refine wpAnyL_take (i := 15) (v := ?_) rfl (by kernel_rfl) (by kernel_rfl) (by kernel_rfl) (by kernel_rfl) (fun _ _ _ h => h) (by kernel_rfl) hClosed (Or.inl ⟨by rfl, ?_⟩) hHeld (fun hClosed => ?_)
          rotate_left
          · intro wv hSw; go_simp; all_goals (with_reducible rfl)
          (try simp only [List.getElem_toArray, List.getElem_cons_succ, List.getElem_cons_zero, put_at, List.set])
          refine wpAnyL_take (i := 16) (v := ?_) rfl (by kernel_rfl) (by kernel_rfl) (by kernel_rfl) (by kernel_rfl) (fun _ _ _ h => h) (by kernel_rfl) hClosed (Or.inl ⟨by rfl, ?_⟩) hHeld (fun hClosed => ?_)
          rotate_left
          · intro wv hSw; go_simp; all_goals (with_reducible rfl)
          (try simp only [List.getElem_toArray, List.getElem_cons_succ, List.getElem_cons_zero, put_at, List.set])
          refine wpAnyL_last rfl (by kernel_rfl) (by kernel_rfl) (fun KK hK => ?_)
          have c3 := (cell_blk hHeld D).trans g0
          have f3 := (frz_blk hHeld D).trans fr0
          go_simp
          refine hK.out _ _ ?_
          (try simp only [put_at, List.set])
          obtain ⟨Q1, q2⟩ := LEAF.out wq g cap' w3 GQ BQ ow3 gr3 bl3 lc3
          clear ow3 gr3 bl3 lc3 GQ BQ szQ HQ LEAF QF
          go_wp2_with fail
          go_roundw
          case rel => exact ⟨i + 1, _, false, by omega, rfl, rfl, by go_num, q2, Q1⟩
          case measure => simp [intOf]; omega
      | false =>
        have hk : ¬ k = kUA := of_decide_eq_false E0.out.symm
        clear E0
        rcases HS1.out with ⟨a', cap', hv', HG, hs, ht⟩ | ⟨O, M, c2, done, cur, hv', HG, hs, hl1, hl2⟩
        · rw [hv'] at hvs
          subst hvs
          subst ht
          have NX : Hid (GrS 61 w w1 L (i + 1) (.slice a' 0 cap') true) := Lib.hid ⟨Or.inl ⟨a', cap', rfl, HG, by
            rw [HT.out, hs]
            unfold grS
            rw [if_neg hk], rfl⟩, B1.out⟩
          clear hv' hs HS1 HT hk B1 HG E1 E2 E3
          go_wp2
          go_roundw
          case rel => exact ⟨i + 1, _, true, by omega, rfl, rfl, by go_num, sz1, NX⟩
          case measure => simp [intOf]; omega
        · rw [hv'] at hvs
          subst hvs
          obtain ⟨oo, hoo⟩ : ∃ oo, appG cur.1 k v = oo := ⟨_, rfl⟩
          have HTS : Hid (grF (L.take (i + 1)) = stepG (done.map (·.1)) cur.1 told oo) := Lib.hid (by
            rw [HT.out, hs]
            unfold grS
            rw [if_neg hk]
            dsimp only
            rw [← hoo]
            cases appG cur.1 k v <;> rfl)
          have HAG : Hid (∀ g', oo = some g' → g'.ag = cur.1.ag) := Lib.hid (fun g' h => appG_ag (by rw [hoo, h]))
          have GC := Lib.hid HG
          have HOO := Lib.hid hoo
          clear hv' hs HS1 HT hk HG hoo
          obtain ⟨D, hD⟩ : ∃ D, done.length * 3 = D := ⟨_, rfl⟩
          have g1 : w1.cell? ⟨O, D + 1, none⟩ = some (.slice cur.2.ra cur.1.ru.length cur.2.rc) := by rw [← hD]; exact GC.out.cell 1 (by omega)
          have g2 : w1.cell? ⟨O, D + 2, none⟩ = some (.int .i64 cur.1.de) := by rw [← hD]; exact GC.out.cell 2 (by omega)
          have gl2 : O < w1.heap.size := Nat.lt_of_lt_of_le GC.out.oM GC.out.Mw
          have fr1 : w1.frozen? ⟨O, D + 1, none⟩ = false := GC.out.own.free _
          have fr2 : w1.frozen? ⟨O, D + 2, none⟩ = false := GC.out.own.free _
          have ne0 : ((done.length : Int) + 1 == 0) = false := beq_eq_false_iff_ne.2 (by omega)
          have HDD := Lib.hid hD
          have hw : IntKind.i64.wrap (done.length : Int) = (done.length : Int) := IntWalk.i64_in _ (by omega)
          have jx0 : (0 : Int) ≤ (done.length : Int) := by omega
          have jx1 : (done.length : Int) < (done.length : Int) + 1 := by omega
          -- what stays as it is
          have KEEP : Hid (∀ told', (stepG (done.map (·.1)) cur.1 told oo = (done.map (·.1), some cur.1, told')) → GrS 61 w w1 L (i + 1) (.slice (some ⟨O, 0, none⟩) (done.length + 1) c2) told') := Lib.hid (fun told' h => ⟨Or.inr ⟨O, M, c2, done, cur, rfl, GC.out, by rw [HTS.out, h], by omega, by omega⟩, B1.out⟩)
          obtain ⟨em, hem⟩ : ∃ b, sv.toList.isEmpty = b := ⟨_, rfl⟩
          have EM : Hid (em = decide (v = [])) := Lib.hid (by rw [← hem, emp_is HVV.out])
          cases b1 with
          | true =>
            have hka : k = kAL := of_decide_eq_true E1.out.symm
            have e2 : b2 = false := by rw [E2.out, hka]; rfl
            have e3 : b3 = false := by rw [E3.out, hka]; rfl
            subst e2
            subst e3
            have HA : Hid (oo = some (if em = false ∧ cur.1.ru.length < 64 then ⟨cur.1.ag, cur.1.ru ++ [(true, v)], cur.1.de⟩ else cur.1)) := Lib.hid (by
              rw [← HOO.out]
              unfold appG
              rw [if_pos (Or.inl hka), EM.out, decide_eq_true hka]
              by_cases hv : v = []
              · simp [hv]
              · simp [hv])
            clear hka EM HOO
            cases em with
            | true =>
              have NX := Lib.hid (KEEP.out true (by rw [HA.out, if_neg (fun h => by cases h.1)]; rfl))
              clear KEEP HTS HAG GC HA E1 E2 E3
              go_wp2
              go_roundw
              case rel => exact ⟨i + 1, _, true, by omega, rfl, rfl, by go_num, sz1, NX⟩
              case measure => simp [intOf]; omega
            | false =>
              by_cases h64 : cur.1.ru.length < 64
              · have d64 : decide ((cur.1.ru.length : Int) < 64) = true := decide_eq_true (by omega)
                have d64' : decide (cur.1.ru.length < 64) = true := decide_eq_true h64
                have HE : Hid (oo = some ⟨cur.1.ag, cur.1.ru ++ [(true, v)], cur.1.de⟩) := Lib.hid (by rw [HA.out, if_pos ⟨rfl, h64⟩])
                have OR := Lib.hid GC.out.rows.r
                have HZ : Hid (ruC cur.1.ru ++ (#[Value.bool true, .string sv] : Array Value).toList = ruC (cur.1.ru ++ [(true, v)])) := Lib.hid (by rw [ruC_app, ← HSV.out]; rfl)
                have LEAF : Hid (∀ (g cap' : Nat) (w3 : World), Own w3 w.heap.size 30 2 (some ⟨g, 0, none⟩) (cur.1.ru.length + 1) cap' (ruC (cur.1.ru ++ [(true, v)])) → w1.grownBy w3 (cur.2.ra.map (·.block)) → Below w.heap.size w1 w3 → (cur.2.ra.map (·.block) = some g ∨ g = w1.heap.size + 1) → w3.cell? ⟨O, D + 1, none⟩ = some (.slice cur.2.ra cur.1.ru.length cur.2.rc) ∧ w3.frozen? ⟨O, D + 1, none⟩ = false ∧ Hid (GrS 61 w (w3.setCell ⟨O, D + 1, none⟩ (.slice (some ⟨g, 0, none⟩) (cur.1.ru.length + 1) cap')) L (i + 1) (.slice (some ⟨O, 0, none⟩) (done.length + 1) c2) true) ∧ w.heap.size ≤ (w3.setCell ⟨O, D + 1, none⟩ (.slice (some ⟨g, 0, none⟩) (cur.1.ru.length + 1) cap')).heap.size) := Lib.hid (fun g cap' w3 q1 q2 q3 q4 => by
                  have q5 := GC.out.rule (z := (true, v)) q1 q2 (by rcases q4 with q4 | q4; exact Or.inl q4; exact Or.inr (by omega))
                  rw [HDD.out] at q5
                  have q8 : Below w.heap.size w (w3.setCell ⟨O, D + 1, none⟩ (.slice (some ⟨g, 0, none⟩) (cur.1.ru.length + 1) cap')) := (B1.out.trans q3).setCell (p := ⟨O, D + 1, none⟩) GC.out.BO _
                  have nO : some O ≠ cur.2.ra.map (·.block) := fun e => by
                    have := GC.out.cr O (own_block GC.out.rows.r e.symm)
                    have := GC.out.oM
                    omega
                  have qb := q2.block O gl2 nO
                  exact ⟨(cell_blk qb (D + 1)).trans g1, (frz_blk qb (D + 1)).trans fr1, Lib.hid ⟨Or.inr ⟨O, M, c2, done, _, rfl, q5, by rw [HTS.out, HE.out]; rfl, by omega, by show cur.1.ag.length ≤ _; omega⟩, q8⟩, q8.size⟩)
                clear KEEP HTS HAG GC HA HE E1 E2 E3
                go_wp2_with (at_builtin; refine wpList_app1 rowU rfl _ _ rfl w.heap.size cur.2.ra cur.1.ru.length cur.2.rc (ruC cur.1.ru) rfl OR.out #[.bool true, .string sv] rfl rfl (bs_one _ _) (by omega) (by decide) sz1 (cur.1.ru.length + 1) rfl (ruC (cur.1.ru ++ [(true, v)])) HZ.out ?_; rintro g cap' w3 q1 q2 q3 q4; obtain ⟨c3, f3, NX, sx⟩ := LEAF.out g cap' w3 q1 q2 q3 q4; have gl3 := Nat.lt_of_lt_of_le gl2 q3.size; clear LEAF q1 q2 q3 q4 g1 g2 fr1 fr2)
                go_roundw
                case rel => exact ⟨i + 1, _, true, by omega, rfl, rfl, by go_num, sx, NX⟩
                case measure => simp [intOf]; omega
              · have d64 : decide ((cur.1.ru.length : Int) < 64) = false := decide_eq_false (by omega)
                have d64' : decide (cur.1.ru.length < 64) = false := decide_eq_false h64
                have NX := Lib.hid (KEEP.out true (by rw [HA.out, if_neg (fun h => h64 h.2)]; rfl))
                clear KEEP HTS HAG GC HA E1 E2 E3
                go_wp2
                go_roundw
                case rel => exact ⟨i + 1, _, true, by omega, rfl, rfl, by go_num, sz1, NX⟩
                case measure => simp [intOf]; omega
          | false =>
            have hka : ¬ k = kAL := of_decide_eq_false E1.out.symm
            cases b2 with
            | true =>
              have hkd2 : k = kDI := of_decide_eq_true E2.out.symm
              have e3 : b3 = false := by rw [E3.out, hkd2]; rfl
              subst e3
              have HA : Hid (oo = some (if em = false ∧ cur.1.ru.length < 64 then ⟨cur.1.ag, cur.1.ru ++ [(false, v)], cur.1.de⟩ else cur.1)) := Lib.hid (by
                rw [← HOO.out]
                unfold appG
                rw [if_pos (Or.inr hkd2), EM.out, decide_eq_false hka]
                by_cases hv : v = []
                · simp [hv]
                · simp [hv])
              clear hka hkd2 EM HOO
              cases em with
              | true =>
                have NX := Lib.hid (KEEP.out true (by rw [HA.out, if_neg (fun h => by cases h.1)]; rfl))
                clear KEEP HTS HAG GC HA E1 E2 E3
                go_wp2
                go_roundw
                case rel => exact ⟨i + 1, _, true, by omega, rfl, rfl, by go_num, sz1, NX⟩
                case measure => simp [intOf]; omega
              | false =>
                by_cases h64 : cur.1.ru.length < 64
                · have d64 : decide ((cur.1.ru.length : Int) < 64) = true := decide_eq_true (by omega)
                  have d64' : decide (cur.1.ru.length < 64) = true := decide_eq_true h64
                  have HE : Hid (oo = some ⟨cur.1.ag, cur.1.ru ++ [(false, v)], cur.1.de⟩) := Lib.hid (by rw [HA.out, if_pos ⟨rfl, h64⟩])
                  have OR := Lib.hid GC.out.rows.r
                  have HZ : Hid (ruC cur.1.ru ++ (#[Value.bool false, .string sv] : Array Value).toList = ruC (cur.1.ru ++ [(false, v)])) := Lib.hid (by rw [ruC_app, ← HSV.out]; rfl)
                  have LEAF : Hid (∀ (g cap' : Nat) (w3 : World), Own w3 w.heap.size 30 2 (some ⟨g, 0, none⟩) (cur.1.ru.length + 1) cap' (ruC (cur.1.ru ++ [(false, v)])) → w1.grownBy w3 (cur.2.ra.map (·.block)) → Below w.heap.size w1 w3 → (cur.2.ra.map (·.block) = some g ∨ g = w1.heap.size + 1) → w3.cell? ⟨O, D + 1, none⟩ = some (.slice cur.2.ra cur.1.ru.length cur.2.rc) ∧ w3.frozen? ⟨O, D + 1, none⟩ = false ∧ Hid (GrS 61 w (w3.setCell ⟨O, D + 1, none⟩ (.slice (some ⟨g, 0, none⟩) (cur.1.ru.length + 1) cap')) L (i + 1) (.slice (some ⟨O, 0, none⟩) (done.length + 1) c2) true) ∧ w.heap.size ≤ (w3.setCell ⟨O, D + 1, none⟩ (.slice (some ⟨g, 0, none⟩) (cur.1.ru.length + 1) cap')).heap.size) := Lib.hid (fun g cap' w3 q1 q2 q3 q4 => by
                    have q5 := GC.out.rule (z := (false, v)) q1 q2 (by rcases q4 with q4 | q4; exact Or.inl q4; exact Or.inr (by omega))
                    rw [HDD.out] at q5
                    have q8 : Below w.heap.size w (w3.setCell ⟨O, D + 1, none⟩ (.slice (some ⟨g, 0, none⟩) (cur.1.ru.length + 1) cap')) := (B1.out.trans q3).setCell (p := ⟨O, D + 1, none⟩) GC.out.BO _
                    have nO : some O ≠ cur.2.ra.map (·.block) := fun e => by
                      have := GC.out.cr O (own_block GC.out.rows.r e.symm)
                      have := GC.out.oM
                      omega
                    have qb := q2.block O gl2 nO
                    exact ⟨(cell_blk qb (D + 1)).trans g1, (frz_blk qb (D + 1)).trans fr1, Lib.hid ⟨Or.inr ⟨O, M, c2, done, _, rfl, q5, by rw [HTS.out, HE.out]; rfl, by omega, by show cur.1.ag.length ≤ _; omega⟩, q8⟩, q8.size⟩)
                  clear KEEP HTS HAG GC HA HE E1 E2 E3
                  go_wp2_with (at_builtin; refine wpList_app1 rowU rfl _ _ rfl w.heap.size cur.2.ra cur.1.ru.length cur.2.rc (ruC cur.1.ru) rfl OR.out #[.bool false, .string sv] rfl rfl (bs_one _ _) (by omega) (by decide) sz1 (cur.1.ru.length + 1) rfl (ruC (cur.1.ru ++ [(false, v)])) HZ.out ?_; rintro g cap' w3 q1 q2 q3 q4; obtain ⟨c3, f3, NX, sx⟩ := LEAF.out g cap' w3 q1 q2 q3 q4; have gl3 := Nat.lt_of_lt_of_le gl2 q3.size; clear LEAF q1 q2 q3 q4 g1 g2 fr1 fr2)
                  go_roundw
                  case rel => exact ⟨i + 1, _, true, by omega, rfl, rfl, by go_num, sx, NX⟩
                  case measure => simp [intOf]; omega
                · have d64 : decide ((cur.1.ru.length : Int) < 64) = false := decide_eq_false (by omega)
                  have d64' : decide (cur.1.ru.length < 64) = false := decide_eq_false h64
                  have NX := Lib.hid (KEEP.out true (by rw [HA.out, if_neg (fun h => h64 h.2)]; rfl))
                  clear KEEP HTS HAG GC HA E1 E2 E3
                  go_wp2
                  go_roundw
                  case rel => exact ⟨i + 1, _, true, by omega, rfl, rfl, by go_num, sz1, NX⟩
                  case measure => simp [intOf]; omega
            | false =>
              have hkd2 : ¬ k = kDI := of_decide_eq_false E2.out.symm
              cases b3 with
              | true =>
                have hkc : k = kCD := of_decide_eq_true E3.out.symm
                obtain ⟨od, hod⟩ : ∃ o, delL v = o := ⟨_, rfl⟩
                have DL := Lib.hid (fun W : World => rdelay_at sv ZV.out od (by rw [HVV.out]; exact hod) W)
                have HA : Hid (oo = some (delG cur.1 od)) := Lib.hid (by
                  rw [← HOO.out]
                  unfold appG
                  rw [if_neg (by rintro (h | h); exact hka h; exact hkd2 h), if_pos hkc, hod])
                clear hka hkd2 hkc EM HOO hod
                go_wp2_with fail
                refine (DL.out _).mono ?_
                rintro e wx ⟨z, rfl, hz, hwx⟩
                subst hwx
                cases od with
                | none =>
                  simp only [Option.isSome_none]
                  clear hz
                  have NX := Lib.hid (KEEP.out true (by rw [HA.out]; rfl))
                  clear KEEP HTS HAG GC HA E1 E2 E3
                  go_wp2
                  go_roundw
                  case rel => exact ⟨i + 1, _, true, by omega, rfl, rfl, by go_num, sz1, NX⟩
                  case measure => simp [intOf]; omega
                | some d =>
                  obtain rfl := hz d rfl
                  simp only [Option.isSome_some]
                  by_cases hd : cur.1.de < z
                  · have dd : decide (cur.1.de < z) = true := decide_eq_true hd
                    have NX : Hid (GrS 61 w (wx.setCell ⟨O, D + 2, none⟩ (.int .i64 z)) L (i + 1) (.slice (some ⟨O, 0, none⟩) (done.length + 1) c2) true ∧ w.heap.size ≤ (wx.setCell ⟨O, D + 2, none⟩ (.int .i64 z)).heap.size) := Lib.hid (by
                      have q5 := GC.out.delay z
                      rw [HDD.out] at q5
                      have q8 : Below w.heap.size w (wx.setCell ⟨O, D + 2, none⟩ (.int .i64 z)) := B1.out.setCell (p := ⟨O, D + 2, none⟩) GC.out.BO _
                      exact ⟨⟨Or.inr ⟨O, M, c2, done, _, rfl, q5, by rw [HTS.out, HA.out, delG_high hd]; rfl, by omega, by show cur.1.ag.length ≤ _; omega⟩, q8⟩, q8.size⟩)
                    have sx := NX.out.2
                    have NX := Lib.hid NX.out.1
                    clear KEEP HTS HAG GC HA E1 E2 E3
                    go_wp2
                    go_roundw
                    case rel => exact ⟨i + 1, _, true, by omega, rfl, rfl, by go_num, sx, NX⟩
                    case measure => simp [intOf]; omega
                  · have dd : decide (cur.1.de < z) = false := decide_eq_false hd
                    have NX := Lib.hid (KEEP.out true (by rw [HA.out, delG_low hd]; rfl))
                    clear KEEP HTS HAG GC HA E1 E2 E3
                    go_wp2
                    go_roundw
                    case rel => exact ⟨i + 1, _, true, by omega, rfl, rfl, by go_num, sz1, NX⟩
                    case measure => simp [intOf]; omega
              | false =>
                have hkc : ¬ k = kCD := of_decide_eq_false E3.out.symm
                have HA : Hid (oo = none) := Lib.hid (by
                  rw [← HOO.out]
                  unfold appG
                  rw [if_neg (by rintro (h | h); exact hka h; exact hkd2 h), if_neg hkc])
                clear hka hkd2 hkc EM HOO
                have NX := Lib.hid (KEEP.out told (by rw [HA.out]; rfl))
                clear KEEP HTS HAG GC HA E1 E2 E3
                go_wp2
                go_roundw
                case rel => exact ⟨i + 1, _, told, by omega, rfl, rfl, by go_num, sz1, NX⟩
                case measure => simp [intOf]; omega
    · have hkd : decide ((i : Int) < (n : Int)) = false := decide_eq_false (by omega)
      obtain ⟨a', cap', LL, hv', HG, hm⟩ := HS.out.st.end_
      have HE : Hid (LL.map (·.1) = grL L) := Lib.hid (by
        rw [hm, List.take_of_length_le (by have := HN.out; omega)]
        rfl)
      rw [hv'] at hvs
      subst hvs
      have HG := Lib.hid HG
      clear hv' hm
      go_wp2
      go_ret
      exact ⟨a', cap', LL, rfl, HG.out, HE.out, HS.out.bel⟩
end Go.Proofs.YtodlecjbpmggiaaGreatDoor
