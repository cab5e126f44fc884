/- TaleReads: the walk. Written by gen_rdl.py. -/
import Derived.Test.YtmdaggcfnkacjaaDoorTlRdM
import Derived.Test.YtmdaggcfnkacjaaDoorTlStL
import Derived.Deep.CutBlock
namespace Go.Proofs.YtmdaggcfnkacjaaDoor
open Go Go.RowKit
set_option linter.unusedVariables false
set_option linter.unusedSimpArgs false
set_option maxRecDepth 10000

/-- What Read has laid: the steps' row, and all that the loop reads of it. -/
structure RdG (x : ByteArray) (ys : List Yv) (n : Nat) (a : Option Addr) (w : World) (B : Nat) (c : Nat) : Prop where
  map : (lnB x).map (fun x => stepS (bl x)) = ys.map (fun v => some (spOf v.y))
  len : ys.length = n
  own : Own w B 24 6 a n c (yV ys)
  oks : YsOk w B ys
structure RdB (x : ByteArray) (q : Nat) : Prop where
  ok : ∀ i z, i < q → (lnB x)[i]? = some z → (stepS (bl z)).isSome = true
  bad : ∃ z, (lnB x)[q]? = some z ∧ stepS (bl z) = none
theorem sp_of (sp : Sp) : ∃ x : Stp, spOf x = sp := ⟨⟨sp.kind, sp.a, sp.b, sp.c, stB sp.text, sp.hs.map fun h => (stB h.1, stB h.2)⟩, by
  obtain ⟨k, a, b, c, t, hs⟩ := sp
  unfold spOf
  dsimp only
  rw [List.map_map, bl_stB]
  congr 1
  exact (List.map_congr_left (fun h _ => rfl)).trans (List.map_id _)⟩
theorem lnB_size (x : ByteArray) : (lnB x).length ≤ x.size := by
  unfold lnB
  rw [List.length_map]
  exact lnl_len (bl x)

set_option maxHeartbeats 8000000 in
theorem taleReads_walk (s : ByteArray) (w : World) (hsm : s.size ≤ maxLen) (hT : TabT w) :
    Calls Tryd.prog 5 #[.string s] w fun e w' => e = .returned (.bool true) ∧ Below w.heap.size w w' := by
  have HT0 := Lib.hid hT
  clear hT
  go_enter Tryd.func5, Tryd.ntmps5
  go_upto_if 13 with fail
  go_cut [0] from 11 (fun v wx => ∃ x, v = .string x ∧ x.size ≤ 20000 ∧ wx = w)
  case first =>
    by_cases h : 20000 < s.size
    · have d1 : decide ((20000 : Int) < (s.size : Int)) = true := decide_eq_true (by omega)
      have d2 : decide (20000 < s.size) = true := decide_eq_true h
      have hz : (s.extract 0 20000).size ≤ 20000 := by simp; omega
      go_wp2
      go_meet
      exact ⟨_, rfl, hz, rfl⟩
    · have d1 : decide ((20000 : Int) < (s.size : Int)) = false := decide_eq_false (by omega)
      have d2 : decide (20000 < s.size) = false := decide_eq_false h
      go_wp2
      go_meet
      exact ⟨s, rfl, by omega, rfl⟩
  case rest =>
    obtain ⟨x, rfl, hx, he⟩ := hcut
    have he := he.symm
    subst he
    go_wp2_with fail
    refine (read_at x (by omega) _ HT0.out).mono ?_
    rintro e w1 ⟨hb, ⟨ys, n, a, c, hmap, hlen, rfl, ho, hok⟩ | ⟨q, hq1, hq2, rfl⟩⟩
    · have HG : Hid (RdG x ys n a w1 w.heap.size c) := Lib.hid ⟨hmap, hlen, ho, hok⟩
      have B1 := Lib.hid hb
      have HT := Lib.hid (HT0.out.later hb)
      have hn2 : n ≤ 20000 := by
        have := congrArg List.length hmap
        rw [List.length_map, List.length_map] at this
        have := lnB_size x
        omega
      clear hmap hlen ho hok hb HT0
      go_wp2_with fail
      go_loopw [6, 7] (fun vk vf wr => ∃ k f : Nat, vk = .int .i64 (k : Int) ∧ vf = .int .i64 (f : Int) ∧ k ≤ 20001 ∧ f ≤ 20001 ∧ Hid (AtL x k f ∧ k ≤ n) ∧ Hid (Below w1.heap.size w1 wr)) (fun _ vf _ => 20002 - (intOf vf).toNat)
      case atStart => exact ⟨0, 0, rfl, rfl, by omega, by omega, Lib.hid ⟨AtL.start x, Nat.zero_le _⟩, Lib.hid (Below.refl _ _)⟩
      case round =>
        obtain ⟨k, f, rfl, rfl, hk2, hf2, HA, BR⟩ := hrel
        by_cases hf : f < x.size
        · have hkd : decide ((f : Int) < (x.size : Int)) = true := decide_eq_true (by omega)
          have hkn : decide (f < x.size) = true := decide_eq_true hf
          have HF := Lib.hid hf
          obtain ⟨wo, rfl⟩ : ∃ W, W = wr := ⟨_, rfl⟩
          go_wp2_with fail
          go_loopw [8] (fun ve wr => ∃ e : Nat, ve = .int .i64 (e : Int) ∧ f ≤ e ∧ e ≤ x.size ∧ Hid (∀ j, f ≤ j → j < e → (bl x)[j]? ≠ some 10) ∧ wr = wo) (fun ve _ => 20002 - (intOf ve).toNat)
          case atStart => exact ⟨f, rfl, by omega, by omega, Lib.hid (fun j h1 h2 => by omega), rfl⟩
          case round =>
            obtain ⟨e, rfl, he1, he2, HNO, hw⟩ := hrel
            subst hw
            by_cases hes : e < x.size
            · have hed : decide ((e : Int) < (x.size : Int)) = true := decide_eq_true (by omega)
              have hen : decide (e < x.size) = true := decide_eq_true hes
              have ix0 : (0 : Int) ≤ (e : Int) := by omega
              have ix1 : (e : Int) < (x.size : Int) := by omega
              have CB : Hid ((bl x)[e]? = some (x[e]'hes)) := Lib.hid (by unfold bl; rw [Array.getElem?_toList]; exact Array.getElem?_eq_getElem _)
              by_cases hc : x[e]'hes = 10
              · have hcc : (((x[e]'hes).toNat : Int) != 10) = false := by rw [hc]; rfl
                have hcd : ((((x[e]'hes).toNat : Int)) == 10) = true := by rw [hc]; rfl
                have HEN : Hid (e = x.size ∨ (bl x)[e]? = some 10) := Lib.hid (Or.inr (by rw [CB.out, hc]))
                have HHC := Lib.hid hc
                clear hc
                obtain ⟨HA2, HY⟩ := HA.out.1.step HF.out he1 he2 HNO.out HEN.out
                rw [← bl_extract] at HY
                obtain ⟨y0, hy0⟩ : ∃ y0, x.extract f e = y0 := ⟨_, rfl⟩
                rw [hy0] at HY
                have HY0 := Lib.hid hy0
                have hys : y0.size ≤ 20000 := by rw [← hy0, ByteArray.size_extract]; omega
                have HYS := Lib.hid hys
                have HA3 := Lib.hid HA2
                have HYY := Lib.hid HY
                have fe0 : (0 : Int) ≤ (f : Int) := by omega
                have fe1 : (f : Int) ≤ (e : Int) := by omega
                have fe2 : (e : Int) ≤ (x.size : Int) := by omega
                have fe3 : f ≤ e := he1
                have fe4 : e ≤ x.size := he2
                clear HA2 HY hy0 hys
                go_wp2_with fail
                rw [HY0.out]
                obtain ⟨v, hv, hs⟩ := good_at HG.out.map k y0 HYY.out
                obtain ⟨y, yha, yhc⟩ := v
                dsimp only at hs
                obtain ⟨m, hm⟩ : ∃ m, y.hs.length = m := ⟨_, rfl⟩
                have hkn1 : k < n := by
                  have := (List.getElem?_eq_some_iff.1 hv).1
                  have := HG.out.len
                  omega
                have HSY : Hid (SzS y) := Lib.hid (step_small (line_of_step hs).1 (by rw [bl_len]; have := HYS.out; omega))
                have HV := Lib.hid hv
                have HS := Lib.hid hs
                have HM := Lib.hid hm
                have HKN := Lib.hid hkn1
                have RY := Lib.hid (rdc_own (HG.out.oks _ (List.mem_of_getElem? hv)) (by decide))
                dsimp only at RY
                clear hv hs hm
                refine (step_as y0 y HS.out (by have := HYS.out; omega) _ (HT.out.later BR.out)).mono ?_
                rintro ee w2 ⟨ha, hc, rfl, ho, hb⟩
                rw [HM.out] at ho ⊢
                have RD := Lib.hid (rdc_own ho (by decide))
                have B2 := Lib.hid (BR.out.trans (hb.mono BR.out.size))
                clear hb ho
                unfold stA
                go_upto_region 11 with fail
                refine code_forget (fun W => Hid (Box W w2.heap.size #[.int .i64 y.k, .int .i64 y.a, .int .i64 y.b, .int .i64 y.c, .string y.t, .slice ha m hc] 24) ∧ Hid (Below w2.heap.size w2 W)) ⟨Lib.hid (Box.new w2 _ _), Lib.hid ((Below.refl w2.heap.size w2).alloc (Nat.le_refl _) _)⟩ ?_
                obtain ⟨ay, hay⟩ : ∃ b, w2.heap.size = b := ⟨_, rfl⟩
                rintro w3 ⟨BY, hb⟩
                have RD3 := Lib.hid (RD.out.later hb.out)
                have B3 := Lib.hid (B2.out.trans (hb.out.mono B2.out.size))
                rw [hay] at BY ⊢
                clear hay hb B2 RD
                obtain ⟨g, rfl, _, _⟩ := HG.out.own.some_ (by omega : 0 < n)
                have CC : ∀ j u, (yL ⟨y, yha, yhc⟩)[j]? = some u → w1.cell? ⟨g, k * 6 + j, none⟩ = some u := fun j u hj => HG.out.own.cell (yV_at HV.out j u hj)
                have C0 := Lib.hid (show w1.cell? ⟨g, k * 6, none⟩ = some (.int .i64 y.k) from CC 0 _ rfl)
                have C1 := Lib.hid (show w1.cell? ⟨g, k * 6 + 1, none⟩ = some (.int .i64 y.a) from CC 1 _ rfl)
                have C2 := Lib.hid (show w1.cell? ⟨g, k * 6 + 2, none⟩ = some (.int .i64 y.b) from CC 2 _ rfl)
                have C3 := Lib.hid (show w1.cell? ⟨g, k * 6 + 3, none⟩ = some (.int .i64 y.c) from CC 3 _ rfl)
                have C4 := Lib.hid (show w1.cell? ⟨g, k * 6 + 4, none⟩ = some (.string y.t) from CC 4 _ rfl)
                have C5 := Lib.hid (show w1.cell? ⟨g, k * 6 + 5, none⟩ = some (.slice yha m yhc) from HM.out ▸ CC 5 _ rfl)
                have SM : Hid (∀ W, Below w3.heap.size w3 W → Calls Tryd.prog 13 #[.agg #[.int .i64 y.k, .int .i64 y.a, .int .i64 y.b, .int .i64 y.c, .string y.t, .slice ha m hc], .agg #[.int .i64 y.k, .int .i64 y.a, .int .i64 y.b, .int .i64 y.c, .string y.t, .slice yha m yhc]] W fun e w' => e = .returned (.bool true) ∧ Below W.heap.size W w') := Lib.hid (fun W hW =>
                  (same_at y y ha yha m m hc yhc HM.out HM.out (by have := HSY.out.2.1; have := HM.out; omega) W (RD3.out.later hW) (RY.out.later (B3.out.trans (hW.mono B3.out.size)))).mono (fun e w' ⟨q, he, hq, hb⟩ => ⟨by rw [he, hq.2 rfl], hb⟩))
                clear CC
                have g1 : decide ((n : Int) < (k : Int) + 1) = false := decide_eq_false (by omega)
                have g2 : decide ((k : Int) + 1 > (n : Int)) = false := decide_eq_false (by omega)
                have g3 : IntKind.i64.wrap ((k : Int) + 1 - 1) = (k : Int) := by rw [show (k : Int) + 1 - 1 = k by omega]; exact i64_in _ (by omega) (by omega)
                have g4 : IntKind.i64.wrap (k : Int) = (k : Int) := i64_in _ (by omega) (by omega)
                have ik0 : (0 : Int) ≤ (k : Int) := by omega
                have ik1 : (k : Int) < (n : Int) := by omega
                go_upto_region 13 with fail
                refine wp_region_last 17 (fun w' => Box w' ay #[.int .i64 y.k, .int .i64 y.a, .int .i64 y.b, .int .i64 y.c, .string y.t, .slice ha m hc] 24 ∧ Below w3.heap.size w3 w') (by kernel_rfl) (⟨BY.out.drew, (Below.refl _ _).drew⟩) (fun hHeld hClosed => ?_)
                refine wpAnyL_take (i := 0) (v := ?_) rfl (by kernel_rfl) (by kernel_rfl) (by kernel_rfl) (by kernel_rfl) (fun _ _ _ h => h) (by kernel_rfl) hClosed (Or.inl ⟨by rfl, ?_⟩) hHeld (fun hClosed => ?_)
                rotate_left
                · intro wv hSw; go_simp; all_goals (with_reducible rfl)
                (try simp only [List.getElem_toArray, List.getElem_cons_zero, put_at, List.set])
                refine wpAnyL_take (i := 1) (v := ?_) rfl (by kernel_rfl) (by kernel_rfl) (by kernel_rfl) (by kernel_rfl) (fun _ _ _ h => h) (by kernel_rfl) hClosed (Or.inl ⟨by rfl, ?_⟩) hHeld (fun hClosed => ?_)
                rotate_left
                · intro wv hSw; go_simp; all_goals (with_reducible rfl)
                (try simp only [List.getElem_toArray, List.getElem_cons_succ, List.getElem_cons_zero, put_at, List.set])
                refine wpAnyL_take (i := 2) (v := ?_) rfl (by kernel_rfl) (by kernel_rfl) (by kernel_rfl) (by kernel_rfl) (fun _ _ _ h => h) (by kernel_rfl) hClosed (Or.inl ⟨by rfl, ?_⟩) hHeld (fun hClosed => ?_)
                rotate_left
                · intro wv hSw; go_simp; all_goals (with_reducible rfl)
                (try simp only [List.getElem_toArray, List.getElem_cons_succ, List.getElem_cons_zero, put_at, List.set])
                refine wpAnyL_take (i := 3) (v := ?_) rfl (by kernel_rfl) (by kernel_rfl) (by kernel_rfl) (by kernel_rfl) (fun _ _ _ h => h) (by kernel_rfl) hClosed (Or.inl ⟨by rfl, ?_⟩) hHeld (fun hClosed => ?_)
                rotate_left
                · intro wv hSw; go_simp; all_goals (with_reducible rfl)
                (try simp only [List.getElem_toArray, List.getElem_cons_succ, List.getElem_cons_zero, put_at, List.set])
                refine wpAnyL_take (i := 4) (v := ?_) rfl (by kernel_rfl) (by kernel_rfl) (by kernel_rfl) (by kernel_rfl) (fun _ _ _ h => h) (by kernel_rfl) hClosed (Or.inl ⟨by rfl, ?_⟩) hHeld (fun hClosed => ?_)
                rotate_left
                · intro wv hSw; go_simp; all_goals (with_reducible rfl)
                (try simp only [List.getElem_toArray, List.getElem_cons_succ, List.getElem_cons_zero, put_at, List.set])
                refine wpAnyL_take (i := 5) (v := ?_) rfl (by kernel_rfl) (by kernel_rfl) (by kernel_rfl) (by kernel_rfl) (fun _ _ _ h => h) (by kernel_rfl) hClosed (Or.inl ⟨by rfl, ?_⟩) hHeld (fun hClosed => ?_)
                rotate_left
                · intro wv hSw; go_simp; all_goals (with_reducible rfl)
                (try simp only [List.getElem_toArray, List.getElem_cons_succ, List.getElem_cons_zero, put_at, List.set])
                refine wpAnyL_take (i := 6) (v := ?_) rfl (by kernel_rfl) (by kernel_rfl) (by kernel_rfl) (by kernel_rfl) (fun _ _ _ h => h) (by kernel_rfl) hClosed (Or.inl ⟨by rfl, ?_⟩) hHeld (fun hClosed => ?_)
                rotate_left
                · intro wv hSw; go_simp; all_goals (with_reducible rfl)
                (try simp only [List.getElem_toArray, List.getElem_cons_succ, List.getElem_cons_zero, put_at, List.set])
                refine wpAnyL_take (i := 7) (v := ?_) rfl (by kernel_rfl) (by kernel_rfl) (by kernel_rfl) (by kernel_rfl) (fun _ _ _ h => h) (by kernel_rfl) hClosed (Or.inl ⟨by rfl, ?_⟩) hHeld (fun hClosed => ?_)
                rotate_left
                · intro wv hSw; go_simp; all_goals (with_reducible rfl)
                (try simp only [List.getElem_toArray, List.getElem_cons_succ, List.getElem_cons_zero, put_at, List.set])
                refine wpAnyL_take (i := 8) (v := (.agg #[.int .i64 y.k, .int .i64 y.a, .int .i64 y.b, .int .i64 y.c, .string y.t, .slice ha m hc])) rfl (by kernel_rfl) (by kernel_rfl) (by kernel_rfl) (by kernel_rfl) (fun _ _ _ h => h) (by kernel_rfl) hClosed (Or.inl ⟨by rfl, ?_⟩) hHeld (fun hClosed => ?_)
                · intro wv hSw; exact exec_load_box (by rfl) (by rfl) hSw.1 Tryd.underlying24 rfl (by kernel_rfl)
                (try simp only [List.getElem_toArray, List.getElem_cons_succ, List.getElem_cons_zero, put_at, List.set])
                refine wpAnyL_take (i := 9) (v := ?_) rfl (by kernel_rfl) (by kernel_rfl) (by kernel_rfl) (by kernel_rfl) (fun _ _ _ h => h) (by kernel_rfl) hClosed (Or.inl ⟨by rfl, ?_⟩) hHeld (fun hClosed => ?_)
                rotate_left
                · intro wv hSw; go_simp; all_goals (with_reducible rfl)
                (try simp only [List.getElem_toArray, List.getElem_cons_succ, List.getElem_cons_zero, put_at, List.set])
                refine wpAnyL_take (i := 10) (v := ?_) rfl (by kernel_rfl) (by kernel_rfl) (by kernel_rfl) (by kernel_rfl) (fun _ _ _ h => h) (by kernel_rfl) hClosed (Or.inl ⟨by rfl, ?_⟩) hHeld (fun hClosed => ?_)
                rotate_left
                · intro wv hSw; go_simp; all_goals (with_reducible rfl)
                (try simp only [List.getElem_toArray, List.getElem_cons_succ, List.getElem_cons_zero, put_at, List.set])
                refine wpAnyL_take (i := 11) (v := ?_) rfl (by kernel_rfl) (by kernel_rfl) (by kernel_rfl) (by kernel_rfl) (fun _ _ _ h => h) (by kernel_rfl) hClosed (Or.inl ⟨by rfl, ?_⟩) hHeld (fun hClosed => ?_)
                rotate_left
                · intro wv hSw; go_simp; all_goals (with_reducible rfl)
                (try simp only [List.getElem_toArray, List.getElem_cons_succ, List.getElem_cons_zero, put_at, List.set])
                refine wpAnyL_take (i := 12) (v := ?_) rfl (by kernel_rfl) (by kernel_rfl) (by kernel_rfl) (by kernel_rfl) (fun _ _ _ h => h) (by kernel_rfl) hClosed (Or.inl ⟨by rfl, ?_⟩) hHeld (fun hClosed => ?_)
                rotate_left
                · intro wv hSw; go_simp; all_goals (with_reducible rfl)
                (try simp only [List.getElem_toArray, List.getElem_cons_succ, List.getElem_cons_zero, put_at, List.set])
                refine wpAnyL_take (i := 13) (v := ?_) rfl (by kernel_rfl) (by kernel_rfl) (by kernel_rfl) (by kernel_rfl) (fun _ _ _ h => h) (by kernel_rfl) hClosed (Or.inl ⟨by rfl, ?_⟩) hHeld (fun hClosed => ?_)
                rotate_left
                · intro wv hSw; have Z := B3.out.trans (hSw.2.mono B3.out.size); have c0 := (Z.cell (World.block_lt_of_cell? _ _ C0.out)).trans C0.out; have c1 := (Z.cell (World.block_lt_of_cell? _ _ C1.out)).trans C1.out; have c2 := (Z.cell (World.block_lt_of_cell? _ _ C2.out)).trans C2.out; have c3 := (Z.cell (World.block_lt_of_cell? _ _ C3.out)).trans C3.out; have c4 := (Z.cell (World.block_lt_of_cell? _ _ C4.out)).trans C4.out; have c5 := (Z.cell (World.block_lt_of_cell? _ _ C5.out)).trans C5.out; go_simp; all_goals (with_reducible rfl)
                (try simp only [List.getElem_toArray, List.getElem_cons_succ, List.getElem_cons_zero, put_at, List.set])
                refine wpAnyL_one (i := 14) rfl (by kernel_rfl) (by kernel_rfl) hClosed (fun KK hK => ?_)
                go_simp
                refine (SM.out _ hHeld.2).mono ?_
                rintro ee w4 ⟨rfl, hw4⟩
                go_wp2_with fail
                refine hK.out _ _ ?_ (fun hClosed hHeld => ?_)
                · exact ⟨hHeld.1.later hw4, hHeld.2.trans (hw4.mono hHeld.2.size)⟩
                clear hK KK
                (first | simp only [List.getElem_toArray, List.getElem_cons_succ, List.getElem_cons_zero, put_at, List.set] | (try simp only [put_at, List.set]))
                refine wpAnyL_take (i := 15) (v := ?_) rfl (by kernel_rfl) (by kernel_rfl) (by kernel_rfl) (by kernel_rfl) (fun _ _ _ h => h) (by kernel_rfl) hClosed (Or.inl ⟨by rfl, ?_⟩) hHeld (fun hClosed => ?_)
                rotate_left
                · intro wv hSw; go_simp; all_goals (with_reducible rfl)
                (try simp only [List.getElem_toArray, List.getElem_cons_succ, List.getElem_cons_zero, put_at, List.set])
                refine wpAnyL_take (i := 16) (v := ?_) rfl (by kernel_rfl) (by kernel_rfl) (by kernel_rfl) (by kernel_rfl) (fun _ _ _ h => h) (by kernel_rfl) hClosed (Or.inl ⟨by rfl, ?_⟩) hHeld (fun hClosed => ?_)
                rotate_left
                · intro wv hSw; go_simp; all_goals (with_reducible rfl)
                (try simp only [List.getElem_toArray, List.getElem_cons_succ, List.getElem_cons_zero, put_at, List.set])
                refine wpAnyL_last rfl (by kernel_rfl) (by kernel_rfl) (fun KK hK => ?_)
                go_simp
                refine hK.out _ _ ?_
                (try simp only [put_at, List.set])
                have B4 := Lib.hid (B3.out.trans (hHeld.2.mono B3.out.size))
                clear hHeld
                go_wp2_with fail
                go_roundw
                case rel => exact ⟨k + 1, e + 1, by go_num, by go_num, by have := HA3.out.1; omega, by omega, Lib.hid ⟨HA3.out, by have := HKN.out; omega⟩, B4⟩
                case measure => simp [intOf]; omega
              · have hcc : (((x[e]'hes).toNat : Int) != 10) = true := by
                  rw [bne_iff_ne]
                  intro h
                  apply hc
                  apply UInt8.toNat_inj.1
                  have : (x[e]'hes).toNat = 10 := by omega
                  rw [this]; rfl
                have hcd : ((((x[e]'hes).toNat : Int)) == 10) = false := by simpa using hcc
                have HNN : Hid (∀ j, f ≤ j → j < e + 1 → (bl x)[j]? ≠ some 10) := Lib.hid (fun j h1 h2 => by
                  by_cases hje : j < e
                  · exact HNO.out j h1 hje
                  · rw [show j = e by omega, CB.out]
                    intro h
                    exact hc (Option.some.inj h))
                have HHC := Lib.hid hc
                clear hc
                go_wp2_with fail
                go_roundw
                case rel => exact ⟨e + 1, by go_num, by omega, by omega, HNN, (by first | trivial | rfl)⟩
                case measure => simp [intOf]; omega
            · have hed : decide ((e : Int) < (x.size : Int)) = false := decide_eq_false (by omega)
              have hen : decide (e < x.size) = false := decide_eq_false hes
              have HEN : Hid (e = x.size ∨ (bl x)[e]? = some 10) := Lib.hid (Or.inl (by omega))
              obtain ⟨HA2, HY⟩ := HA.out.1.step HF.out he1 he2 HNO.out HEN.out
              rw [← bl_extract] at HY
              obtain ⟨y0, hy0⟩ : ∃ y0, x.extract f e = y0 := ⟨_, rfl⟩
              rw [hy0] at HY
              have HY0 := Lib.hid hy0
              have hys : y0.size ≤ 20000 := by rw [← hy0, ByteArray.size_extract]; omega
              have HYS := Lib.hid hys
              have HA3 := Lib.hid HA2
              have HYY := Lib.hid HY
              have fe0 : (0 : Int) ≤ (f : Int) := by omega
              have fe1 : (f : Int) ≤ (e : Int) := by omega
              have fe2 : (e : Int) ≤ (x.size : Int) := by omega
              have fe3 : f ≤ e := he1
              have fe4 : e ≤ x.size := he2
              clear HA2 HY hy0 hys
              go_wp2_with fail
              rw [HY0.out]
              obtain ⟨v, hv, hs⟩ := good_at HG.out.map k y0 HYY.out
              obtain ⟨y, yha, yhc⟩ := v
              dsimp only at hs
              obtain ⟨m, hm⟩ : ∃ m, y.hs.length = m := ⟨_, rfl⟩
              have hkn1 : k < n := by
                have := (List.getElem?_eq_some_iff.1 hv).1
                have := HG.out.len
                omega
              have HSY : Hid (SzS y) := Lib.hid (step_small (line_of_step hs).1 (by rw [bl_len]; have := HYS.out; omega))
              have HV := Lib.hid hv
              have HS := Lib.hid hs
              have HM := Lib.hid hm
              have HKN := Lib.hid hkn1
              have RY := Lib.hid (rdc_own (HG.out.oks _ (List.mem_of_getElem? hv)) (by decide))
              dsimp only at RY
              clear hv hs hm
              refine (step_as y0 y HS.out (by have := HYS.out; omega) _ (HT.out.later BR.out)).mono ?_
              rintro ee w2 ⟨ha, hc, rfl, ho, hb⟩
              rw [HM.out] at ho ⊢
              have RD := Lib.hid (rdc_own ho (by decide))
              have B2 := Lib.hid (BR.out.trans (hb.mono BR.out.size))
              clear hb ho
              unfold stA
              go_upto_region 11 with fail
              refine code_forget (fun W => Hid (Box W w2.heap.size #[.int .i64 y.k, .int .i64 y.a, .int .i64 y.b, .int .i64 y.c, .string y.t, .slice ha m hc] 24) ∧ Hid (Below w2.heap.size w2 W)) ⟨Lib.hid (Box.new w2 _ _), Lib.hid ((Below.refl w2.heap.size w2).alloc (Nat.le_refl _) _)⟩ ?_
              obtain ⟨ay, hay⟩ : ∃ b, w2.heap.size = b := ⟨_, rfl⟩
              rintro w3 ⟨BY, hb⟩
              have RD3 := Lib.hid (RD.out.later hb.out)
              have B3 := Lib.hid (B2.out.trans (hb.out.mono B2.out.size))
              rw [hay] at BY ⊢
              clear hay hb B2 RD
              obtain ⟨g, rfl, _, _⟩ := HG.out.own.some_ (by omega : 0 < n)
              have CC : ∀ j u, (yL ⟨y, yha, yhc⟩)[j]? = some u → w1.cell? ⟨g, k * 6 + j, none⟩ = some u := fun j u hj => HG.out.own.cell (yV_at HV.out j u hj)
              have C0 := Lib.hid (show w1.cell? ⟨g, k * 6, none⟩ = some (.int .i64 y.k) from CC 0 _ rfl)
              have C1 := Lib.hid (show w1.cell? ⟨g, k * 6 + 1, none⟩ = some (.int .i64 y.a) from CC 1 _ rfl)
              have C2 := Lib.hid (show w1.cell? ⟨g, k * 6 + 2, none⟩ = some (.int .i64 y.b) from CC 2 _ rfl)
              have C3 := Lib.hid (show w1.cell? ⟨g, k * 6 + 3, none⟩ = some (.int .i64 y.c) from CC 3 _ rfl)
              have C4 := Lib.hid (show w1.cell? ⟨g, k * 6 + 4, none⟩ = some (.string y.t) from CC 4 _ rfl)
              have C5 := Lib.hid (show w1.cell? ⟨g, k * 6 + 5, none⟩ = some (.slice yha m yhc) from HM.out ▸ CC 5 _ rfl)
              have SM : Hid (∀ W, Below w3.heap.size w3 W → Calls Tryd.prog 13 #[.agg #[.int .i64 y.k, .int .i64 y.a, .int .i64 y.b, .int .i64 y.c, .string y.t, .slice ha m hc], .agg #[.int .i64 y.k, .int .i64 y.a, .int .i64 y.b, .int .i64 y.c, .string y.t, .slice yha m yhc]] W fun e w' => e = .returned (.bool true) ∧ Below W.heap.size W w') := Lib.hid (fun W hW =>
                (same_at y y ha yha m m hc yhc HM.out HM.out (by have := HSY.out.2.1; have := HM.out; omega) W (RD3.out.later hW) (RY.out.later (B3.out.trans (hW.mono B3.out.size)))).mono (fun e w' ⟨q, he, hq, hb⟩ => ⟨by rw [he, hq.2 rfl], hb⟩))
              clear CC
              have g1 : decide ((n : Int) < (k : Int) + 1) = false := decide_eq_false (by omega)
              have g2 : decide ((k : Int) + 1 > (n : Int)) = false := decide_eq_false (by omega)
              have g3 : IntKind.i64.wrap ((k : Int) + 1 - 1) = (k : Int) := by rw [show (k : Int) + 1 - 1 = k by omega]; exact i64_in _ (by omega) (by omega)
              have g4 : IntKind.i64.wrap (k : Int) = (k : Int) := i64_in _ (by omega) (by omega)
              have ik0 : (0 : Int) ≤ (k : Int) := by omega
              have ik1 : (k : Int) < (n : Int) := by omega
              go_upto_region 13 with fail
              refine wp_region_last 17 (fun w' => Box w' ay #[.int .i64 y.k, .int .i64 y.a, .int .i64 y.b, .int .i64 y.c, .string y.t, .slice ha m hc] 24 ∧ Below w3.heap.size w3 w') (by kernel_rfl) (⟨BY.out.drew, (Below.refl _ _).drew⟩) (fun hHeld hClosed => ?_)
              refine wpAnyL_take (i := 0) (v := ?_) rfl (by kernel_rfl) (by kernel_rfl) (by kernel_rfl) (by kernel_rfl) (fun _ _ _ h => h) (by kernel_rfl) hClosed (Or.inl ⟨by rfl, ?_⟩) hHeld (fun hClosed => ?_)
              rotate_left
              · intro wv hSw; go_simp; all_goals (with_reducible rfl)
              (try simp only [List.getElem_toArray, List.getElem_cons_zero, put_at, List.set])
              refine wpAnyL_take (i := 1) (v := ?_) rfl (by kernel_rfl) (by kernel_rfl) (by kernel_rfl) (by kernel_rfl) (fun _ _ _ h => h) (by kernel_rfl) hClosed (Or.inl ⟨by rfl, ?_⟩) hHeld (fun hClosed => ?_)
              rotate_left
              · intro wv hSw; go_simp; all_goals (with_reducible rfl)
              (try simp only [List.getElem_toArray, List.getElem_cons_succ, List.getElem_cons_zero, put_at, List.set])
              refine wpAnyL_take (i := 2) (v := ?_) rfl (by kernel_rfl) (by kernel_rfl) (by kernel_rfl) (by kernel_rfl) (fun _ _ _ h => h) (by kernel_rfl) hClosed (Or.inl ⟨by rfl, ?_⟩) hHeld (fun hClosed => ?_)
              rotate_left
              · intro wv hSw; go_simp; all_goals (with_reducible rfl)
              (try simp only [List.getElem_toArray, List.getElem_cons_succ, List.getElem_cons_zero, put_at, List.set])
              refine wpAnyL_take (i := 3) (v := ?_) rfl (by kernel_rfl) (by kernel_rfl) (by kernel_rfl) (by kernel_rfl) (fun _ _ _ h => h) (by kernel_rfl) hClosed (Or.inl ⟨by rfl, ?_⟩) hHeld (fun hClosed => ?_)
              rotate_left
              · intro wv hSw; go_simp; all_goals (with_reducible rfl)
              (try simp only [List.getElem_toArray, List.getElem_cons_succ, List.getElem_cons_zero, put_at, List.set])
              refine wpAnyL_take (i := 4) (v := ?_) rfl (by kernel_rfl) (by kernel_rfl) (by kernel_rfl) (by kernel_rfl) (fun _ _ _ h => h) (by kernel_rfl) hClosed (Or.inl ⟨by rfl, ?_⟩) hHeld (fun hClosed => ?_)
              rotate_left
              · intro wv hSw; go_simp; all_goals (with_reducible rfl)
              (try simp only [List.getElem_toArray, List.getElem_cons_succ, List.getElem_cons_zero, put_at, List.set])
              refine wpAnyL_take (i := 5) (v := ?_) rfl (by kernel_rfl) (by kernel_rfl) (by kernel_rfl) (by kernel_rfl) (fun _ _ _ h => h) (by kernel_rfl) hClosed (Or.inl ⟨by rfl, ?_⟩) hHeld (fun hClosed => ?_)
              rotate_left
              · intro wv hSw; go_simp; all_goals (with_reducible rfl)
              (try simp only [List.getElem_toArray, List.getElem_cons_succ, List.getElem_cons_zero, put_at, List.set])
              refine wpAnyL_take (i := 6) (v := ?_) rfl (by kernel_rfl) (by kernel_rfl) (by kernel_rfl) (by kernel_rfl) (fun _ _ _ h => h) (by kernel_rfl) hClosed (Or.inl ⟨by rfl, ?_⟩) hHeld (fun hClosed => ?_)
              rotate_left
              · intro wv hSw; go_simp; all_goals (with_reducible rfl)
              (try simp only [List.getElem_toArray, List.getElem_cons_succ, List.getElem_cons_zero, put_at, List.set])
              refine wpAnyL_take (i := 7) (v := ?_) rfl (by kernel_rfl) (by kernel_rfl) (by kernel_rfl) (by kernel_rfl) (fun _ _ _ h => h) (by kernel_rfl) hClosed (Or.inl ⟨by rfl, ?_⟩) hHeld (fun hClosed => ?_)
              rotate_left
              · intro wv hSw; go_simp; all_goals (with_reducible rfl)
              (try simp only [List.getElem_toArray, List.getElem_cons_succ, List.getElem_cons_zero, put_at, List.set])
              refine wpAnyL_take (i := 8) (v := (.agg #[.int .i64 y.k, .int .i64 y.a, .int .i64 y.b, .int .i64 y.c, .string y.t, .slice ha m hc])) rfl (by kernel_rfl) (by kernel_rfl) (by kernel_rfl) (by kernel_rfl) (fun _ _ _ h => h) (by kernel_rfl) hClosed (Or.inl ⟨by rfl, ?_⟩) hHeld (fun hClosed => ?_)
              · intro wv hSw; exact exec_load_box (by rfl) (by rfl) hSw.1 Tryd.underlying24 rfl (by kernel_rfl)
              (try simp only [List.getElem_toArray, List.getElem_cons_succ, List.getElem_cons_zero, put_at, List.set])
              refine wpAnyL_take (i := 9) (v := ?_) rfl (by kernel_rfl) (by kernel_rfl) (by kernel_rfl) (by kernel_rfl) (fun _ _ _ h => h) (by kernel_rfl) hClosed (Or.inl ⟨by rfl, ?_⟩) hHeld (fun hClosed => ?_)
              rotate_left
              · intro wv hSw; go_simp; all_goals (with_reducible rfl)
              (try simp only [List.getElem_toArray, List.getElem_cons_succ, List.getElem_cons_zero, put_at, List.set])
              refine wpAnyL_take (i := 10) (v := ?_) rfl (by kernel_rfl) (by kernel_rfl) (by kernel_rfl) (by kernel_rfl) (fun _ _ _ h => h) (by kernel_rfl) hClosed (Or.inl ⟨by rfl, ?_⟩) hHeld (fun hClosed => ?_)
              rotate_left
              · intro wv hSw; go_simp; all_goals (with_reducible rfl)
              (try simp only [List.getElem_toArray, List.getElem_cons_succ, List.getElem_cons_zero, put_at, List.set])
              refine wpAnyL_take (i := 11) (v := ?_) rfl (by kernel_rfl) (by kernel_rfl) (by kernel_rfl) (by kernel_rfl) (fun _ _ _ h => h) (by kernel_rfl) hClosed (Or.inl ⟨by rfl, ?_⟩) hHeld (fun hClosed => ?_)
              rotate_left
              · intro wv hSw; go_simp; all_goals (with_reducible rfl)
              (try simp only [List.getElem_toArray, List.getElem_cons_succ, List.getElem_cons_zero, put_at, List.set])
              refine wpAnyL_take (i := 12) (v := ?_) rfl (by kernel_rfl) (by kernel_rfl) (by kernel_rfl) (by kernel_rfl) (fun _ _ _ h => h) (by kernel_rfl) hClosed (Or.inl ⟨by rfl, ?_⟩) hHeld (fun hClosed => ?_)
              rotate_left
              · intro wv hSw; go_simp; all_goals (with_reducible rfl)
              (try simp only [List.getElem_toArray, List.getElem_cons_succ, List.getElem_cons_zero, put_at, List.set])
              refine wpAnyL_take (i := 13) (v := ?_) rfl (by kernel_rfl) (by kernel_rfl) (by kernel_rfl) (by kernel_rfl) (fun _ _ _ h => h) (by kernel_rfl) hClosed (Or.inl ⟨by rfl, ?_⟩) hHeld (fun hClosed => ?_)
              rotate_left
              · intro wv hSw; have Z := B3.out.trans (hSw.2.mono B3.out.size); have c0 := (Z.cell (World.block_lt_of_cell? _ _ C0.out)).trans C0.out; have c1 := (Z.cell (World.block_lt_of_cell? _ _ C1.out)).trans C1.out; have c2 := (Z.cell (World.block_lt_of_cell? _ _ C2.out)).trans C2.out; have c3 := (Z.cell (World.block_lt_of_cell? _ _ C3.out)).trans C3.out; have c4 := (Z.cell (World.block_lt_of_cell? _ _ C4.out)).trans C4.out; have c5 := (Z.cell (World.block_lt_of_cell? _ _ C5.out)).trans C5.out; go_simp; all_goals (with_reducible rfl)
              (try simp only [List.getElem_toArray, List.getElem_cons_succ, List.getElem_cons_zero, put_at, List.set])
              refine wpAnyL_one (i := 14) rfl (by kernel_rfl) (by kernel_rfl) hClosed (fun KK hK => ?_)
              go_simp
              refine (SM.out _ hHeld.2).mono ?_
              rintro ee w4 ⟨rfl, hw4⟩
              go_wp2_with fail
              refine hK.out _ _ ?_ (fun hClosed hHeld => ?_)
              · exact ⟨hHeld.1.later hw4, hHeld.2.trans (hw4.mono hHeld.2.size)⟩
              clear hK KK
              (first | simp only [List.getElem_toArray, List.getElem_cons_succ, List.getElem_cons_zero, put_at, List.set] | (try simp only [put_at, List.set]))
              refine wpAnyL_take (i := 15) (v := ?_) rfl (by kernel_rfl) (by kernel_rfl) (by kernel_rfl) (by kernel_rfl) (fun _ _ _ h => h) (by kernel_rfl) hClosed (Or.inl ⟨by rfl, ?_⟩) hHeld (fun hClosed => ?_)
              rotate_left
              · intro wv hSw; go_simp; all_goals (with_reducible rfl)
              (try simp only [List.getElem_toArray, List.getElem_cons_succ, List.getElem_cons_zero, put_at, List.set])
              refine wpAnyL_take (i := 16) (v := ?_) rfl (by kernel_rfl) (by kernel_rfl) (by kernel_rfl) (by kernel_rfl) (fun _ _ _ h => h) (by kernel_rfl) hClosed (Or.inl ⟨by rfl, ?_⟩) hHeld (fun hClosed => ?_)
              rotate_left
              · intro wv hSw; go_simp; all_goals (with_reducible rfl)
              (try simp only [List.getElem_toArray, List.getElem_cons_succ, List.getElem_cons_zero, put_at, List.set])
              refine wpAnyL_last rfl (by kernel_rfl) (by kernel_rfl) (fun KK hK => ?_)
              go_simp
              refine hK.out _ _ ?_
              (try simp only [put_at, List.set])
              have B4 := Lib.hid (B3.out.trans (hHeld.2.mono B3.out.size))
              clear hHeld
              go_wp2_with fail
              go_roundw
              case rel => exact ⟨k + 1, e + 1, by go_num, by go_num, by have := HA3.out.1; omega, by omega, Lib.hid ⟨HA3.out, by have := HKN.out; omega⟩, B4⟩
              case measure => simp [intOf]; omega
        · have hkd : decide ((f : Int) < (x.size : Int)) = false := decide_eq_false (by omega)
          have hkn : decide (f < x.size) = false := decide_eq_false hf
          have hfin := HA.out.1.fin hf
          have hkk : k = n := by
            have h1 := HA.out.2
            have h2 := congrArg List.length HG.out.map
            rw [List.length_map, List.length_map, HG.out.len] at h2
            omega
          have g5 : ((n : Int) == (k : Int)) = true := by rw [beq_iff_eq]; omega
          have g6 : ((k : Int) == (n : Int)) = true := by rw [beq_iff_eq]; omega
          clear hkk hfin
          have AW := Lib.hid (awake24 wr (HT.out.later BR.out))
          go_wp2_with fail
          refine AW.out.mono ?_
          rintro ee w4 ⟨rfl, hb⟩
          have BE := Lib.hid (B1.out.trans ((BR.out.trans (hb.mono BR.out.size)).mono B1.out.size))
          go_wp2
          go_ret
          exact ⟨rfl, BE.out⟩
    · have HG : Hid (RdB x q) := Lib.hid ⟨hq1, hq2⟩
      have B1 := Lib.hid hb
      have HT := Lib.hid (HT0.out.later hb)
      have hq3 : q < 20000 := by
        obtain ⟨z, hz, _⟩ := hq2
        have := (List.getElem?_eq_some_iff.1 hz).1
        have := lnB_size x
        omega
      clear hq1 hq2 hb HT0
      go_wp2_with fail
      go_loopw [6, 7] (fun vk vf wr => ∃ k f : Nat, vk = .int .i64 (k : Int) ∧ vf = .int .i64 (f : Int) ∧ k ≤ 20001 ∧ f ≤ 20001 ∧ Hid (AtL x k f ∧ k ≤ q) ∧ Hid (Below w1.heap.size w1 wr)) (fun _ vf _ => 20002 - (intOf vf).toNat)
      case atStart => exact ⟨0, 0, rfl, rfl, by omega, by omega, Lib.hid ⟨AtL.start x, Nat.zero_le _⟩, Lib.hid (Below.refl _ _)⟩
      case round =>
        obtain ⟨k, f, rfl, rfl, hk2, hf2, HA, BR⟩ := hrel
        by_cases hf : f < x.size
        · have hkd : decide ((f : Int) < (x.size : Int)) = true := decide_eq_true (by omega)
          have hkn : decide (f < x.size) = true := decide_eq_true hf
          have HF := Lib.hid hf
          obtain ⟨wo, rfl⟩ : ∃ W, W = wr := ⟨_, rfl⟩
          go_wp2_with fail
          go_loopw [8] (fun ve wr => ∃ e : Nat, ve = .int .i64 (e : Int) ∧ f ≤ e ∧ e ≤ x.size ∧ Hid (∀ j, f ≤ j → j < e → (bl x)[j]? ≠ some 10) ∧ wr = wo) (fun ve _ => 20002 - (intOf ve).toNat)
          case atStart => exact ⟨f, rfl, by omega, by omega, Lib.hid (fun j h1 h2 => by omega), rfl⟩
          case round =>
            obtain ⟨e, rfl, he1, he2, HNO, hw⟩ := hrel
            subst hw
            by_cases hes : e < x.size
            · have hed : decide ((e : Int) < (x.size : Int)) = true := decide_eq_true (by omega)
              have hen : decide (e < x.size) = true := decide_eq_true hes
              have ix0 : (0 : Int) ≤ (e : Int) := by omega
              have ix1 : (e : Int) < (x.size : Int) := by omega
              have CB : Hid ((bl x)[e]? = some (x[e]'hes)) := Lib.hid (by unfold bl; rw [Array.getElem?_toList]; exact Array.getElem?_eq_getElem _)
              by_cases hc : x[e]'hes = 10
              · have hcc : (((x[e]'hes).toNat : Int) != 10) = false := by rw [hc]; rfl
                have hcd : ((((x[e]'hes).toNat : Int)) == 10) = true := by rw [hc]; rfl
                have HEN : Hid (e = x.size ∨ (bl x)[e]? = some 10) := Lib.hid (Or.inr (by rw [CB.out, hc]))
                have HHC := Lib.hid hc
                clear hc
                obtain ⟨HA2, HY⟩ := HA.out.1.step HF.out he1 he2 HNO.out HEN.out
                rw [← bl_extract] at HY
                obtain ⟨y0, hy0⟩ : ∃ y0, x.extract f e = y0 := ⟨_, rfl⟩
                rw [hy0] at HY
                have HY0 := Lib.hid hy0
                have hys : y0.size ≤ 20000 := by rw [← hy0, ByteArray.size_extract]; omega
                have HYS := Lib.hid hys
                have HA3 := Lib.hid HA2
                have HYY := Lib.hid HY
                have fe0 : (0 : Int) ≤ (f : Int) := by omega
                have fe1 : (f : Int) ≤ (e : Int) := by omega
                have fe2 : (e : Int) ≤ (x.size : Int) := by omega
                have fe3 : f ≤ e := he1
                have fe4 : e ≤ x.size := he2
                clear HA2 HY hy0 hys
                go_wp2_with fail
                rw [HY0.out]
                by_cases hkq : k < q
                · have hsome := HG.out.ok k y0 hkq HYY.out
                  obtain ⟨sp, hsp⟩ := Option.isSome_iff_exists.1 hsome
                  obtain ⟨y, rfl⟩ := sp_of sp
                  obtain ⟨m, hm⟩ : ∃ m, y.hs.length = m := ⟨_, rfl⟩
                  have HS := Lib.hid hsp
                  have HM := Lib.hid hm
                  have HKQ := Lib.hid hkq
                  clear hsp hm hsome hkq
                  refine (step_as y0 y HS.out (by have := HYS.out; omega) _ (HT.out.later BR.out)).mono ?_
                  rintro ee w2 ⟨ha, hc, rfl, ho, hb⟩
                  rw [HM.out] at ho ⊢
                  have RD := Lib.hid (rdc_own ho (by decide))
                  have B2 := Lib.hid (BR.out.trans (hb.mono BR.out.size))
                  clear hb ho
                  unfold stA
                  go_upto_region 11 with fail
                  refine code_forget (fun W => Hid (Box W w2.heap.size #[.int .i64 y.k, .int .i64 y.a, .int .i64 y.b, .int .i64 y.c, .string y.t, .slice ha m hc] 24) ∧ Hid (Below w2.heap.size w2 W)) ⟨Lib.hid (Box.new w2 _ _), Lib.hid ((Below.refl w2.heap.size w2).alloc (Nat.le_refl _) _)⟩ ?_
                  obtain ⟨ay, hay⟩ : ∃ b, w2.heap.size = b := ⟨_, rfl⟩
                  rintro w3 ⟨BY, hb⟩
                  have RD3 := Lib.hid (RD.out.later hb.out)
                  have B3 := Lib.hid (B2.out.trans (hb.out.mono B2.out.size))
                  rw [hay] at BY ⊢
                  clear hay hb B2 RD
                  go_upto_region 13 with fail
                  refine wp_region_last 17 (fun w' => Below w1.heap.size w1 w') (by kernel_rfl) (B3.out.drew) (fun hHeld hClosed => ?_)
                  refine wpAnyL_take (i := 0) (v := ?_) rfl (by kernel_rfl) (by kernel_rfl) (by kernel_rfl) (by kernel_rfl) (fun _ _ _ h => h) (by kernel_rfl) hClosed (Or.inl ⟨by rfl, ?_⟩) hHeld (fun hClosed => ?_)
                  rotate_left
                  · intro wv hSw; go_simp; all_goals (with_reducible rfl)
                  (try simp only [List.getElem_toArray, List.getElem_cons_zero, put_at, List.set])
                  refine wpAnyL_take (i := 1) (v := ?_) rfl (by kernel_rfl) (by kernel_rfl) (by kernel_rfl) (by kernel_rfl) (fun _ _ _ h => h) (by kernel_rfl) hClosed (Or.inl ⟨by rfl, ?_⟩) hHeld (fun hClosed => ?_)
                  rotate_left
                  · intro wv hSw; go_simp; all_goals (with_reducible rfl)
                  (try simp only [List.getElem_toArray, List.getElem_cons_succ, List.getElem_cons_zero, put_at, List.set])
                  refine wpAnyL_take (i := 2) (v := ?_) rfl (by kernel_rfl) (by kernel_rfl) (by kernel_rfl) (by kernel_rfl) (fun _ _ _ h => h) (by kernel_rfl) hClosed (Or.inl ⟨by rfl, ?_⟩) hHeld (fun hClosed => ?_)
                  rotate_left
                  · intro wv hSw; go_simp; all_goals (with_reducible rfl)
                  (try simp only [List.getElem_toArray, List.getElem_cons_succ, List.getElem_cons_zero, put_at, List.set])
                  refine wpAnyL_take (i := 3) (v := undef) rfl (by kernel_rfl) (by kernel_rfl) (by kernel_rfl) (by kernel_rfl) (fun _ _ _ h => h) (by kernel_rfl) hClosed (Or.inr ⟨by rfl, rfl⟩) hHeld (fun hClosed => ?_)
                  (try simp only [List.getElem_toArray, List.getElem_cons_succ, List.getElem_cons_zero, put_at, List.set])
                  refine wpAnyL_take (i := 4) (v := undef) rfl (by kernel_rfl) (by kernel_rfl) (by kernel_rfl) (by kernel_rfl) (fun _ _ _ h => h) (by kernel_rfl) hClosed (Or.inr ⟨by rfl, rfl⟩) hHeld (fun hClosed => ?_)
                  (try simp only [List.getElem_toArray, List.getElem_cons_succ, List.getElem_cons_zero, put_at, List.set])
                  refine wpAnyL_take (i := 5) (v := undef) rfl (by kernel_rfl) (by kernel_rfl) (by kernel_rfl) (by kernel_rfl) (fun _ _ _ h => h) (by kernel_rfl) hClosed (Or.inr ⟨by rfl, rfl⟩) hHeld (fun hClosed => ?_)
                  (try simp only [List.getElem_toArray, List.getElem_cons_succ, List.getElem_cons_zero, put_at, List.set])
                  refine wpAnyL_take (i := 6) (v := undef) rfl (by kernel_rfl) (by kernel_rfl) (by kernel_rfl) (by kernel_rfl) (fun _ _ _ h => h) (by kernel_rfl) hClosed (Or.inr ⟨by rfl, rfl⟩) hHeld (fun hClosed => ?_)
                  (try simp only [List.getElem_toArray, List.getElem_cons_succ, List.getElem_cons_zero, put_at, List.set])
                  refine wpAnyL_take (i := 7) (v := undef) rfl (by kernel_rfl) (by kernel_rfl) (by kernel_rfl) (by kernel_rfl) (fun _ _ _ h => h) (by kernel_rfl) hClosed (Or.inr ⟨by rfl, rfl⟩) hHeld (fun hClosed => ?_)
                  (try simp only [List.getElem_toArray, List.getElem_cons_succ, List.getElem_cons_zero, put_at, List.set])
                  refine wpAnyL_take (i := 8) (v := undef) rfl (by kernel_rfl) (by kernel_rfl) (by kernel_rfl) (by kernel_rfl) (fun _ _ _ h => h) (by kernel_rfl) hClosed (Or.inr ⟨by rfl, rfl⟩) hHeld (fun hClosed => ?_)
                  (try simp only [List.getElem_toArray, List.getElem_cons_succ, List.getElem_cons_zero, put_at, List.set])
                  refine wpAnyL_take (i := 9) (v := undef) rfl (by kernel_rfl) (by kernel_rfl) (by kernel_rfl) (by kernel_rfl) (fun _ _ _ h => h) (by kernel_rfl) hClosed (Or.inr ⟨by rfl, rfl⟩) hHeld (fun hClosed => ?_)
                  (try simp only [List.getElem_toArray, List.getElem_cons_succ, List.getElem_cons_zero, put_at, List.set])
                  refine wpAnyL_take (i := 10) (v := undef) rfl (by kernel_rfl) (by kernel_rfl) (by kernel_rfl) (by kernel_rfl) (fun _ _ _ h => h) (by kernel_rfl) hClosed (Or.inr ⟨by rfl, rfl⟩) hHeld (fun hClosed => ?_)
                  (try simp only [List.getElem_toArray, List.getElem_cons_succ, List.getElem_cons_zero, put_at, List.set])
                  refine wpAnyL_take (i := 11) (v := undef) rfl (by kernel_rfl) (by kernel_rfl) (by kernel_rfl) (by kernel_rfl) (fun _ _ _ h => h) (by kernel_rfl) hClosed (Or.inr ⟨by rfl, rfl⟩) hHeld (fun hClosed => ?_)
                  (try simp only [List.getElem_toArray, List.getElem_cons_succ, List.getElem_cons_zero, put_at, List.set])
                  refine wpAnyL_take (i := 12) (v := undef) rfl (by kernel_rfl) (by kernel_rfl) (by kernel_rfl) (by kernel_rfl) (fun _ _ _ h => h) (by kernel_rfl) hClosed (Or.inr ⟨by rfl, rfl⟩) hHeld (fun hClosed => ?_)
                  (try simp only [List.getElem_toArray, List.getElem_cons_succ, List.getElem_cons_zero, put_at, List.set])
                  refine wpAnyL_take (i := 13) (v := undef) rfl (by kernel_rfl) (by kernel_rfl) (by kernel_rfl) (by kernel_rfl) (fun _ _ _ h => h) (by kernel_rfl) hClosed (Or.inr ⟨by rfl, rfl⟩) hHeld (fun hClosed => ?_)
                  (try simp only [List.getElem_toArray, List.getElem_cons_succ, List.getElem_cons_zero, put_at, List.set])
                  refine wpAnyL_take (i := 14) (v := undef) rfl (by kernel_rfl) (by kernel_rfl) (by kernel_rfl) (by kernel_rfl) (fun _ _ _ h => h) (by kernel_rfl) hClosed (Or.inr ⟨by rfl, rfl⟩) hHeld (fun hClosed => ?_)
                  (try simp only [List.getElem_toArray, List.getElem_cons_succ, List.getElem_cons_zero, put_at, List.set])
                  refine wpAnyL_take (i := 15) (v := undef) rfl (by kernel_rfl) (by kernel_rfl) (by kernel_rfl) (by kernel_rfl) (fun _ _ _ h => h) (by kernel_rfl) hClosed (Or.inr ⟨by rfl, rfl⟩) hHeld (fun hClosed => ?_)
                  (try simp only [List.getElem_toArray, List.getElem_cons_succ, List.getElem_cons_zero, put_at, List.set])
                  refine wpAnyL_take (i := 16) (v := undef) rfl (by kernel_rfl) (by kernel_rfl) (by kernel_rfl) (by kernel_rfl) (fun _ _ _ h => h) (by kernel_rfl) hClosed (Or.inr ⟨by rfl, rfl⟩) hHeld (fun hClosed => ?_)
                  (try simp only [List.getElem_toArray, List.getElem_cons_succ, List.getElem_cons_zero, put_at, List.set])
                  refine wpAnyL_last rfl (by kernel_rfl) (by kernel_rfl) (fun KK hK => ?_)
                  go_simp
                  refine hK.out _ _ ?_
                  (try simp only [put_at, List.set])
                  have B4 := Lib.hid hHeld
                  clear hHeld
                  go_wp2_with fail
                  go_roundw
                  case rel => exact ⟨k + 1, e + 1, by go_num, by go_num, by have := HA3.out.1; omega, by omega, Lib.hid ⟨HA3.out, by have := HKQ.out; omega⟩, B4⟩
                  case measure => simp [intOf]; omega
                · have hkq : k = q := by have := HA.out.2; omega
                  have HN : Hid (stepS (bl y0) = none) := Lib.hid (by
                    obtain ⟨z, hz, hz2⟩ := HG.out.bad
                    have := HYY.out
                    rw [hkq, hz] at this
                    rw [← Option.some.inj this]
                    exact hz2)
                  have g5 : (((q + 1 : Nat) : Int) == (k : Int) + 1) = true := by rw [beq_iff_eq]; omega
                  have g6 : (((q : Int) + 1) == (k : Int) + 1) = true := by rw [beq_iff_eq]; omega
                  have g7 : (((q : Int)) == (k : Int)) = true := by rw [beq_iff_eq]; omega
                  have HKQ := Lib.hid hkq
                  clear hkq
                  refine (step_no y0 HN.out (by have := HYS.out; omega) _ (HT.out.later BR.out)).mono ?_
                  rintro ee w2 ⟨rfl, hb⟩
                  have B2 := Lib.hid (BR.out.trans (hb.mono BR.out.size))
                  clear hb
                  go_upto_region 11 with fail
                  refine code_forget (fun W => Hid (Below w2.heap.size w2 W)) (Lib.hid ((Below.refl w2.heap.size w2).alloc (Nat.le_refl _) _)) ?_
                  obtain ⟨ay, hay⟩ : ∃ b, w2.heap.size = b := ⟨_, rfl⟩
                  rintro w3 hb
                  have B3 := Lib.hid (B2.out.trans (hb.out.mono B2.out.size))
                  rw [hay]
                  clear hay hb B2
                  have AW := Lib.hid (awake24 w3 (HT.out.later B3.out))
                  go_wp2_with fail
                  refine AW.out.mono ?_
                  rintro ee w4 ⟨rfl, hb⟩
                  have BE := Lib.hid (B1.out.trans ((B3.out.trans (hb.mono B3.out.size)).mono B1.out.size))
                  go_wp2
                  go_ret
                  exact ⟨rfl, BE.out⟩
              · have hcc : (((x[e]'hes).toNat : Int) != 10) = true := by
                  rw [bne_iff_ne]
                  intro h
                  apply hc
                  apply UInt8.toNat_inj.1
                  have : (x[e]'hes).toNat = 10 := by omega
                  rw [this]; rfl
                have hcd : ((((x[e]'hes).toNat : Int)) == 10) = false := by simpa using hcc
                have HNN : Hid (∀ j, f ≤ j → j < e + 1 → (bl x)[j]? ≠ some 10) := Lib.hid (fun j h1 h2 => by
                  by_cases hje : j < e
                  · exact HNO.out j h1 hje
                  · rw [show j = e by omega, CB.out]
                    intro h
                    exact hc (Option.some.inj h))
                have HHC := Lib.hid hc
                clear hc
                go_wp2_with fail
                go_roundw
                case rel => exact ⟨e + 1, by go_num, by omega, by omega, HNN, (by first | trivial | rfl)⟩
                case measure => simp [intOf]; omega
            · have hed : decide ((e : Int) < (x.size : Int)) = false := decide_eq_false (by omega)
              have hen : decide (e < x.size) = false := decide_eq_false hes
              have HEN : Hid (e = x.size ∨ (bl x)[e]? = some 10) := Lib.hid (Or.inl (by omega))
              obtain ⟨HA2, HY⟩ := HA.out.1.step HF.out he1 he2 HNO.out HEN.out
              rw [← bl_extract] at HY
              obtain ⟨y0, hy0⟩ : ∃ y0, x.extract f e = y0 := ⟨_, rfl⟩
              rw [hy0] at HY
              have HY0 := Lib.hid hy0
              have hys : y0.size ≤ 20000 := by rw [← hy0, ByteArray.size_extract]; omega
              have HYS := Lib.hid hys
              have HA3 := Lib.hid HA2
              have HYY := Lib.hid HY
              have fe0 : (0 : Int) ≤ (f : Int) := by omega
              have fe1 : (f : Int) ≤ (e : Int) := by omega
              have fe2 : (e : Int) ≤ (x.size : Int) := by omega
              have fe3 : f ≤ e := he1
              have fe4 : e ≤ x.size := he2
              clear HA2 HY hy0 hys
              go_wp2_with fail
              rw [HY0.out]
              by_cases hkq : k < q
              · have hsome := HG.out.ok k y0 hkq HYY.out
                obtain ⟨sp, hsp⟩ := Option.isSome_iff_exists.1 hsome
                obtain ⟨y, rfl⟩ := sp_of sp
                obtain ⟨m, hm⟩ : ∃ m, y.hs.length = m := ⟨_, rfl⟩
                have HS := Lib.hid hsp
                have HM := Lib.hid hm
                have HKQ := Lib.hid hkq
                clear hsp hm hsome hkq
                refine (step_as y0 y HS.out (by have := HYS.out; omega) _ (HT.out.later BR.out)).mono ?_
                rintro ee w2 ⟨ha, hc, rfl, ho, hb⟩
                rw [HM.out] at ho ⊢
                have RD := Lib.hid (rdc_own ho (by decide))
                have B2 := Lib.hid (BR.out.trans (hb.mono BR.out.size))
                clear hb ho
                unfold stA
                go_upto_region 11 with fail
                refine code_forget (fun W => Hid (Box W w2.heap.size #[.int .i64 y.k, .int .i64 y.a, .int .i64 y.b, .int .i64 y.c, .string y.t, .slice ha m hc] 24) ∧ Hid (Below w2.heap.size w2 W)) ⟨Lib.hid (Box.new w2 _ _), Lib.hid ((Below.refl w2.heap.size w2).alloc (Nat.le_refl _) _)⟩ ?_
                obtain ⟨ay, hay⟩ : ∃ b, w2.heap.size = b := ⟨_, rfl⟩
                rintro w3 ⟨BY, hb⟩
                have RD3 := Lib.hid (RD.out.later hb.out)
                have B3 := Lib.hid (B2.out.trans (hb.out.mono B2.out.size))
                rw [hay] at BY ⊢
                clear hay hb B2 RD
                go_upto_region 13 with fail
                refine wp_region_last 17 (fun w' => Below w1.heap.size w1 w') (by kernel_rfl) (B3.out.drew) (fun hHeld hClosed => ?_)
                refine wpAnyL_take (i := 0) (v := ?_) rfl (by kernel_rfl) (by kernel_rfl) (by kernel_rfl) (by kernel_rfl) (fun _ _ _ h => h) (by kernel_rfl) hClosed (Or.inl ⟨by rfl, ?_⟩) hHeld (fun hClosed => ?_)
                rotate_left
                · intro wv hSw; go_simp; all_goals (with_reducible rfl)
                (try simp only [List.getElem_toArray, List.getElem_cons_zero, put_at, List.set])
                refine wpAnyL_take (i := 1) (v := ?_) rfl (by kernel_rfl) (by kernel_rfl) (by kernel_rfl) (by kernel_rfl) (fun _ _ _ h => h) (by kernel_rfl) hClosed (Or.inl ⟨by rfl, ?_⟩) hHeld (fun hClosed => ?_)
                rotate_left
                · intro wv hSw; go_simp; all_goals (with_reducible rfl)
                (try simp only [List.getElem_toArray, List.getElem_cons_succ, List.getElem_cons_zero, put_at, List.set])
                refine wpAnyL_take (i := 2) (v := ?_) rfl (by kernel_rfl) (by kernel_rfl) (by kernel_rfl) (by kernel_rfl) (fun _ _ _ h => h) (by kernel_rfl) hClosed (Or.inl ⟨by rfl, ?_⟩) hHeld (fun hClosed => ?_)
                rotate_left
                · intro wv hSw; go_simp; all_goals (with_reducible rfl)
                (try simp only [List.getElem_toArray, List.getElem_cons_succ, List.getElem_cons_zero, put_at, List.set])
                refine wpAnyL_take (i := 3) (v := undef) rfl (by kernel_rfl) (by kernel_rfl) (by kernel_rfl) (by kernel_rfl) (fun _ _ _ h => h) (by kernel_rfl) hClosed (Or.inr ⟨by rfl, rfl⟩) hHeld (fun hClosed => ?_)
                (try simp only [List.getElem_toArray, List.getElem_cons_succ, List.getElem_cons_zero, put_at, List.set])
                refine wpAnyL_take (i := 4) (v := undef) rfl (by kernel_rfl) (by kernel_rfl) (by kernel_rfl) (by kernel_rfl) (fun _ _ _ h => h) (by kernel_rfl) hClosed (Or.inr ⟨by rfl, rfl⟩) hHeld (fun hClosed => ?_)
                (try simp only [List.getElem_toArray, List.getElem_cons_succ, List.getElem_cons_zero, put_at, List.set])
                refine wpAnyL_take (i := 5) (v := undef) rfl (by kernel_rfl) (by kernel_rfl) (by kernel_rfl) (by kernel_rfl) (fun _ _ _ h => h) (by kernel_rfl) hClosed (Or.inr ⟨by rfl, rfl⟩) hHeld (fun hClosed => ?_)
                (try simp only [List.getElem_toArray, List.getElem_cons_succ, List.getElem_cons_zero, put_at, List.set])
                refine wpAnyL_take (i := 6) (v := undef) rfl (by kernel_rfl) (by kernel_rfl) (by kernel_rfl) (by kernel_rfl) (fun _ _ _ h => h) (by kernel_rfl) hClosed (Or.inr ⟨by rfl, rfl⟩) hHeld (fun hClosed => ?_)
                (try simp only [List.getElem_toArray, List.getElem_cons_succ, List.getElem_cons_zero, put_at, List.set])
                refine wpAnyL_take (i := 7) (v := undef) rfl (by kernel_rfl) (by kernel_rfl) (by kernel_rfl) (by kernel_rfl) (fun _ _ _ h => h) (by kernel_rfl) hClosed (Or.inr ⟨by rfl, rfl⟩) hHeld (fun hClosed => ?_)
                (try simp only [List.getElem_toArray, List.getElem_cons_succ, List.getElem_cons_zero, put_at, List.set])
                refine wpAnyL_take (i := 8) (v := undef) rfl (by kernel_rfl) (by kernel_rfl) (by kernel_rfl) (by kernel_rfl) (fun _ _ _ h => h) (by kernel_rfl) hClosed (Or.inr ⟨by rfl, rfl⟩) hHeld (fun hClosed => ?_)
                (try simp only [List.getElem_toArray, List.getElem_cons_succ, List.getElem_cons_zero, put_at, List.set])
                refine wpAnyL_take (i := 9) (v := undef) rfl (by kernel_rfl) (by kernel_rfl) (by kernel_rfl) (by kernel_rfl) (fun _ _ _ h => h) (by kernel_rfl) hClosed (Or.inr ⟨by rfl, rfl⟩) hHeld (fun hClosed => ?_)
                (try simp only [List.getElem_toArray, List.getElem_cons_succ, List.getElem_cons_zero, put_at, List.set])
                refine wpAnyL_take (i := 10) (v := undef) rfl (by kernel_rfl) (by kernel_rfl) (by kernel_rfl) (by kernel_rfl) (fun _ _ _ h => h) (by kernel_rfl) hClosed (Or.inr ⟨by rfl, rfl⟩) hHeld (fun hClosed => ?_)
                (try simp only [List.getElem_toArray, List.getElem_cons_succ, List.getElem_cons_zero, put_at, List.set])
                refine wpAnyL_take (i := 11) (v := undef) rfl (by kernel_rfl) (by kernel_rfl) (by kernel_rfl) (by kernel_rfl) (fun _ _ _ h => h) (by kernel_rfl) hClosed (Or.inr ⟨by rfl, rfl⟩) hHeld (fun hClosed => ?_)
                (try simp only [List.getElem_toArray, List.getElem_cons_succ, List.getElem_cons_zero, put_at, List.set])
                refine wpAnyL_take (i := 12) (v := undef) rfl (by kernel_rfl) (by kernel_rfl) (by kernel_rfl) (by kernel_rfl) (fun _ _ _ h => h) (by kernel_rfl) hClosed (Or.inr ⟨by rfl, rfl⟩) hHeld (fun hClosed => ?_)
                (try simp only [List.getElem_toArray, List.getElem_cons_succ, List.getElem_cons_zero, put_at, List.set])
                refine wpAnyL_take (i := 13) (v := undef) rfl (by kernel_rfl) (by kernel_rfl) (by kernel_rfl) (by kernel_rfl) (fun _ _ _ h => h) (by kernel_rfl) hClosed (Or.inr ⟨by rfl, rfl⟩) hHeld (fun hClosed => ?_)
                (try simp only [List.getElem_toArray, List.getElem_cons_succ, List.getElem_cons_zero, put_at, List.set])
                refine wpAnyL_take (i := 14) (v := undef) rfl (by kernel_rfl) (by kernel_rfl) (by kernel_rfl) (by kernel_rfl) (fun _ _ _ h => h) (by kernel_rfl) hClosed (Or.inr ⟨by rfl, rfl⟩) hHeld (fun hClosed => ?_)
                (try simp only [List.getElem_toArray, List.getElem_cons_succ, List.getElem_cons_zero, put_at, List.set])
                refine wpAnyL_take (i := 15) (v := undef) rfl (by kernel_rfl) (by kernel_rfl) (by kernel_rfl) (by kernel_rfl) (fun _ _ _ h => h) (by kernel_rfl) hClosed (Or.inr ⟨by rfl, rfl⟩) hHeld (fun hClosed => ?_)
                (try simp only [List.getElem_toArray, List.getElem_cons_succ, List.getElem_cons_zero, put_at, List.set])
                refine wpAnyL_take (i := 16) (v := undef) rfl (by kernel_rfl) (by kernel_rfl) (by kernel_rfl) (by kernel_rfl) (fun _ _ _ h => h) (by kernel_rfl) hClosed (Or.inr ⟨by rfl, rfl⟩) hHeld (fun hClosed => ?_)
                (try simp only [List.getElem_toArray, List.getElem_cons_succ, List.getElem_cons_zero, put_at, List.set])
                refine wpAnyL_last rfl (by kernel_rfl) (by kernel_rfl) (fun KK hK => ?_)
                go_simp
                refine hK.out _ _ ?_
                (try simp only [put_at, List.set])
                have B4 := Lib.hid hHeld
                clear hHeld
                go_wp2_with fail
                go_roundw
                case rel => exact ⟨k + 1, e + 1, by go_num, by go_num, by have := HA3.out.1; omega, by omega, Lib.hid ⟨HA3.out, by have := HKQ.out; omega⟩, B4⟩
                case measure => simp [intOf]; omega
              · have hkq : k = q := by have := HA.out.2; omega
                have HN : Hid (stepS (bl y0) = none) := Lib.hid (by
                  obtain ⟨z, hz, hz2⟩ := HG.out.bad
                  have := HYY.out
                  rw [hkq, hz] at this
                  rw [← Option.some.inj this]
                  exact hz2)
                have g5 : (((q + 1 : Nat) : Int) == (k : Int) + 1) = true := by rw [beq_iff_eq]; omega
                have g6 : (((q : Int) + 1) == (k : Int) + 1) = true := by rw [beq_iff_eq]; omega
                have g7 : (((q : Int)) == (k : Int)) = true := by rw [beq_iff_eq]; omega
                have HKQ := Lib.hid hkq
                clear hkq
                refine (step_no y0 HN.out (by have := HYS.out; omega) _ (HT.out.later BR.out)).mono ?_
                rintro ee w2 ⟨rfl, hb⟩
                have B2 := Lib.hid (BR.out.trans (hb.mono BR.out.size))
                clear hb
                go_upto_region 11 with fail
                refine code_forget (fun W => Hid (Below w2.heap.size w2 W)) (Lib.hid ((Below.refl w2.heap.size w2).alloc (Nat.le_refl _) _)) ?_
                obtain ⟨ay, hay⟩ : ∃ b, w2.heap.size = b := ⟨_, rfl⟩
                rintro w3 hb
                have B3 := Lib.hid (B2.out.trans (hb.out.mono B2.out.size))
                rw [hay]
                clear hay hb B2
                have AW := Lib.hid (awake24 w3 (HT.out.later B3.out))
                go_wp2_with fail
                refine AW.out.mono ?_
                rintro ee w4 ⟨rfl, hb⟩
                have BE := Lib.hid (B1.out.trans ((B3.out.trans (hb.mono B3.out.size)).mono B1.out.size))
                go_wp2
                go_ret
                exact ⟨rfl, BE.out⟩
        · have hkd : decide ((f : Int) < (x.size : Int)) = false := decide_eq_false (by omega)
          have hkn : decide (f < x.size) = false := decide_eq_false hf
          have hfin := HA.out.1.fin hf
          exfalso
          obtain ⟨z, hz, _⟩ := HG.out.bad
          have h1 := (List.getElem?_eq_some_iff.1 hz).1
          have h2 := HA.out.2
          omega
end Go.Proofs.YtmdaggcfnkacjaaDoor
