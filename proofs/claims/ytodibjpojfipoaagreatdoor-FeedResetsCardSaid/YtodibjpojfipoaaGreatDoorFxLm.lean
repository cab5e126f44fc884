/- The document's fields: number, Number, Param, limit. -/
import Derived.Test.YtodibjpojfipoaaGreatDoorFxPs
import Derived.Test.YtodibjpojfipoaaGreatDoorApE
import Derived.Test.YtodibjpojfipoaaGreatDoorLast
namespace Go.Proofs.YtodibjpojfipoaaGreatDoor
open Go Go.RowKit
set_option linter.unusedVariables false
set_option linter.unusedSimpArgs false
set_option maxRecDepth 10000

theorem lastF_snoc (k : List Int) (l : List FPar) (p : FPar) : lastF k (l ++ [p]) = if p.1 = k then numV p.2 else lastF k l := by
  unfold lastF
  rw [List.reverse_append]
  rfl
theorem lastF_no (k : List Int) : ∀ l : List FPar, (lastF k l).2 = false → (lastF k l).1 = 0 := by
  intro l
  unfold lastF
  generalize l.reverse = r
  induction r with
  | nil => intro _; rfl
  | cons p r ih =>
    unfold revF
    split
    · intro h
      unfold numV at h ⊢
      rw [if_neg (of_decide_eq_false h)]
    · exact ih
theorem rdC_ownG {w : World} {B g size n cap : Nat} {E : TypeId} {ys : List Value} (h : Own w B E size (some ⟨g, 0, none⟩) n cap ys) : RdC w (some ⟨g, 0, none⟩) ys := fun j u hj => ⟨g, 0, rfl, by rw [Nat.zero_add]; exact h.cell hj⟩
theorem one_pb (a : ByteArray) (b c : Int) (d : ByteArray) : ∀ u ∈ [Value.string a, .int .i64 b, .int .i64 c, .string d], u.oneCell' = true := by
  intro u hu
  simp at hu
  rcases hu with rfl | rfl | rfl | rfl <;> rfl
set_option maxHeartbeats 4000000 in
theorem rnumber7_at (sa : Option Addr) (g off c : Nat) (hs : List PB) (hl : hs.length ≤ 1000000) (k : ByteArray) (w : World) (hA : hs ≠ [] → PbAt w g off hs) (hSa : hs ≠ [] → sa = some ⟨g, off, none⟩) :
    Calls Tryz.prog 100 #[.slice sa hs.length c, .string k] w fun e w' => e = .returned (.tuple #[.int .i64 (lastF (btL k) (hs.map PB.f)).1, .bool (lastF (btL k) (hs.map PB.f)).2]) ∧ Below w.heap.size w w' := by
  obtain ⟨Z, hZ⟩ : ∃ Z, lastF (btL k) (hs.map PB.f) = Z := ⟨_, rfl⟩
  have HZ := Lib.hid hZ
  have HNO : Hid (Z.2 = false → Z.1 = 0) := Lib.hid (by rw [← hZ]; exact lastF_no _ _)
  obtain ⟨m, hm⟩ : ∃ m, hs.length = m := ⟨_, rfl⟩
  have HM := Lib.hid hm
  have HA := Lib.hid hA
  have HSA := Lib.hid hSa
  rw [hZ, hm]
  rw [hm] at hl
  clear hZ hm hA hSa
  go_enter Tryz.func100, Tryz.ntmps100
  go_wp2_with fail
  go_loopw [6, 7, 8] (fun nv b j wr => ∃ (i : Nat) (v : Int) (q : Bool), i ≤ m ∧ nv = .int .i64 v ∧ b = .bool q ∧ j = .int .i64 (i : Int) ∧ Hid (q = (lastF (btL k) ((hs.take i).map PB.f)).2) ∧ Hid (q = true → v = (lastF (btL k) ((hs.take i).map PB.f)).1) ∧ Hid (Below w.heap.size w wr)) (fun _ _ j _ => m - (intOf j).toNat)
  case atStart => exact ⟨0, 0, false, by omega, rfl, rfl, rfl, Lib.hid rfl, Lib.hid (fun h => by cases h), Lib.hid (Below.refl _ _)⟩
  case round =>
    obtain ⟨i, v, q, hi, rfl, rfl, rfl, HQ, HV, HW⟩ := hrel
    by_cases hlt : i < m
    · have kd : decide ((i : Int) < (m : Int)) = true := decide_eq_true (by omega)
      obtain ⟨z, hzz⟩ : ∃ z, hs[i]? = some z := ⟨_, List.getElem?_eq_getElem (by rw [HM.out]; exact hlt)⟩
      have hne : hs ≠ [] := fun h => by rw [h] at hzz; simp at hzz
      obtain rfl := HSA.out hne
      have hA1 := HA.out hne
      have c0 := (HW.out.cell hA1.lt).trans (hA1.at_ i z hzz 0 _ rfl)
      have c1 := (HW.out.cell hA1.lt).trans (hA1.at_ i z hzz 1 _ rfl)
      have c2 := (HW.out.cell hA1.lt).trans (hA1.at_ i z hzz 2 _ rfl)
      simp only [Nat.add_zero] at c0
      have c2' : wr.cell? ⟨g, off + i * 4 + 1 + 1, none⟩ = some (.int .i64 z.v.n) := c2
      have e : hs.take (i + 1) = hs.take i ++ [z] := by rw [List.take_add_one, hzz]; rfl
      have HS : Hid (lastF (btL k) ((hs.take (i + 1)).map PB.f) = if btL z.key = btL k then numV z.v.f else lastF (btL k) ((hs.take i).map PB.f)) := Lib.hid (by
        rw [e, List.map_append]
        exact lastF_snoc _ _ _)
      obtain ⟨zk, ⟨zvk, zvn, zvs⟩⟩ := z
      dsimp only at c0 c1 c2 c2' HS
      obtain ⟨E, hE⟩ : ∃ b, (zk.toList == k.toList) = b := ⟨_, rfl⟩
      have HE : Hid (E = decide (btL zk = btL k)) := Lib.hid (by
        rw [← hE, lowB_eqs]
        by_cases h : zk = k
        · rw [decide_eq_true h, decide_eq_true (by rw [h])]
        · rw [decide_eq_false h, decide_eq_false (fun h2 => h (btL_inj h2))])
      have ix0 : (0 : Int) ≤ (i : Int) := by omega
      have ix1 : (i : Int) < (m : Int) := by omega
      clear e hne hA1 hzz HSA
      cases E with
      | false =>
        have HS2 : Hid (lastF (btL k) ((hs.take (i + 1)).map PB.f) = lastF (btL k) ((hs.take i).map PB.f)) := Lib.hid (by rw [HS.out, if_neg (of_decide_eq_false HE.out.symm)])
        have HQ2 : Hid (q = (lastF (btL k) ((hs.take (i + 1)).map PB.f)).2) := Lib.hid (by rw [HS2.out]; exact HQ.out)
        have HV2 : Hid (q = true → v = (lastF (btL k) ((hs.take (i + 1)).map PB.f)).1) := Lib.hid (by rw [HS2.out]; exact HV.out)
        clear HS HS2 HQ HV HE
        go_wp2
        go_roundw
        case rel => exact ⟨i + 1, v, q, by omega, rfl, rfl, by go_num, HQ2, HV2, HW⟩
        case measure => simp [intOf]; omega
      | true =>
        have HS2 : Hid (lastF (btL k) ((hs.take (i + 1)).map PB.f) = (if zvk = 1 then zvn else 0, decide (zvk = 1))) := Lib.hid (by rw [HS.out, if_pos (of_decide_eq_true HE.out.symm)]; rfl)
        obtain ⟨b1, hb1⟩ : ∃ b, (zvk == 1) = b := ⟨_, rfl⟩
        have HQ2 : Hid (b1 = (lastF (btL k) ((hs.take (i + 1)).map PB.f)).2) := Lib.hid (by rw [HS2.out, ← hb1]; by_cases h : zvk = 1 <;> simp [h])
        have HV2 : Hid (b1 = true → zvn = (lastF (btL k) ((hs.take (i + 1)).map PB.f)).1) := Lib.hid (fun h => by rw [h] at hb1; rw [HS2.out, if_pos (beq_iff_eq.1 hb1)])
        clear HS HS2 HQ HV HE
        go_upto_region 6 with fail
        go_quiet (fail)
        obtain ⟨w1, hw1'⟩ : ∃ W, wr.drewN nq = W := ⟨_, rfl⟩
        have B1 : Hid (Below w.heap.size w w1) := Lib.hid (by rw [← hw1']; exact below_dn HW.out nq)
        rw [hw1']
        clear hw1' c0 c1 c2 c2' HW
        go_wp2
        go_roundw
        case rel => exact ⟨i + 1, zvn, b1, by omega, rfl, rfl, by go_num, HQ2, HV2, B1⟩
        case measure => simp [intOf]; omega
    · have kd : decide ((i : Int) < (m : Int)) = false := decide_eq_false (by omega)
      have e : hs.take i = hs := List.take_of_length_le (by rw [HM.out]; omega)
      have HQ2 : Hid (q = Z.2) := Lib.hid (by rw [HQ.out, e, HZ.out])
      have HV2 : Hid (q = true → v = Z.1) := Lib.hid (fun h => by rw [HV.out h, e, HZ.out])
      clear e HQ HV
      cases q with
      | false =>
        go_wp2
        go_ret2
        exact ⟨by rw [← HQ2.out, HNO.out HQ2.out.symm]; rfl, HW.out⟩
      | true =>
        have hv := HV2.out rfl
        subst hv
        go_wp2
        go_ret2
        exact ⟨by rw [← HQ2.out]; rfl, HW.out⟩
set_option maxHeartbeats 4000000 in
theorem rparam7_at (ik i3 : ByteArray) (i1 i2 : Int) (sa : Option Addr) (g off c : Nat) (hs : List PB) (hl : hs.length ≤ 1000000) (k : ByteArray) (w : World) (hA : hs ≠ [] → PbAt w g off hs) (hSa : hs ≠ [] → sa = some ⟨g, off, none⟩) :
    Calls Tryz.prog 63 #[.agg #[.string ik, .int .i64 i1, .int .i64 i2, .string i3, .slice sa hs.length c], .string k] w fun e w' => e = .returned (.tuple #[.int .i64 (lastF (btL k) (hs.map PB.f)).1, .bool (lastF (btL k) (hs.map PB.f)).2]) ∧ Below w.heap.size w w' := by
  have NM := Lib.hid (fun (W : World) (hW : Below w.heap.size w W) => rnumber7_at sa g off c hs hl k W (fun h => ⟨Nat.lt_of_lt_of_le (hA h).lt hW.size, fun i x hx j v hv => (hW.cell (hA h).lt).trans ((hA h).at_ i x hx j v hv)⟩) hSa)
  obtain ⟨⟨z0, z1⟩, hZ⟩ : ∃ Z, lastF (btL k) (hs.map PB.f) = Z := ⟨_, rfl⟩
  rw [hZ] at NM ⊢
  obtain ⟨m, hm⟩ : ∃ m, hs.length = m := ⟨_, rfl⟩
  rw [hm] at NM ⊢
  dsimp only at NM ⊢
  clear hZ hm hA hSa hl
  go_enter Tryz.func63, Tryz.ntmps63
  go_upto_region 1 with fail
  refine code_forget (fun W => Hid (Box W w.heap.size #[.string ik, .int .i64 i1, .int .i64 i2, .string i3, .slice sa m c] 73) ∧ Hid (Below w.heap.size w W)) ⟨Lib.hid (Box.new w _ _), Lib.hid ((Below.refl w.heap.size w).alloc (Nat.le_refl _) _)⟩ ?_
  obtain ⟨xb, hxb⟩ : ∃ x, w.heap.size = x := ⟨_, rfl⟩
  rintro w1 ⟨BX, HB⟩
  rw [hxb] at BX ⊢
  have x4 := BX.out.cell 4
  clear hxb
  go_wp2_with fail
  refine (NM.out _ HB.out).mono ?_
  rintro e w2 ⟨rfl, hb⟩
  have HB2 := Lib.hid (HB.out.trans (hb.mono HB.out.size))
  clear hb
  go_wp2
  go_ret2
  exact ⟨rfl, HB2.out⟩
theorem pbV_k (L : List IX) : ∀ i, i < L.length → ∀ z, L[i]? = some z → pbV ((L.take i).map IX.k) ++ [.string z.k.key, .int .i64 z.k.v.k, .int .i64 z.k.v.n, .string z.k.v.s] = pbV ((L.take (i + 1)).map IX.k) := by
  intro i _ z hz
  rw [List.take_add_one, hz]
  unfold pbV
  rw [List.map_append, List.flatMap_append]
  simp [pbL]
set_option maxHeartbeats 4000000 in
theorem rNumber7_at (sa : Option Addr) (g off c : Nat) (L : List IX) (hl : L.length ≤ 1000) (k : ByteArray) (w : World) (hA : L ≠ [] → IxAt w g off L) (hSa : L ≠ [] → sa = some ⟨g, off, none⟩) :
    Calls Tryz.prog 62 #[.slice sa L.length c, .string k] w fun e w' => e = .returned (.tuple #[.int .i64 (lastF (btL k) ((L.map IX.f).map kvF)).1, .bool (lastF (btL k) ((L.map IX.f).map kvF)).2]) ∧ Below w.heap.size w w' := by
  have ek : (L.map IX.f).map kvF = (L.map IX.k).map PB.f := by rw [List.map_map, List.map_map]; rfl
  rw [ek]
  clear ek
  obtain ⟨m, hm⟩ : ∃ m, L.length = m := ⟨_, rfl⟩
  have HM := Lib.hid hm
  have HA := Lib.hid hA
  have HSA := Lib.hid hSa
  have mixed : Tryz.prog.follows .mixedOrders = true := by kernel_rfl
  rw [hm] at hl ⊢
  obtain ⟨z0, hz0⟩ : ∃ z, (lastF (btL k) ((L.map IX.k).map PB.f)).1 = z := ⟨_, rfl⟩
  obtain ⟨z1, hz1⟩ : ∃ z, (lastF (btL k) ((L.map IX.k).map PB.f)).2 = z := ⟨_, rfl⟩
  have HZ := Lib.hid (And.intro hz0 hz1)
  rw [hz0, hz1]
  clear hm hA hSa hz0 hz1
  go_enter Tryz.func62, Tryz.ntmps62
  go_upto_region 2 with fail
  refine code_forget (fun W => Hid (Own W w.heap.size 110 4 (some ⟨w.heap.size, 0, none⟩) 0 0 []) ∧ Hid (Below w.heap.size w W)) ⟨Lib.hid (Own.lit (w := w) (B := w.heap.size) (n := 0) (size := 4) (cs := #[]) (E := 110) (Nat.le_refl _) (by decide) rfl), Lib.hid ((Below.refl w.heap.size w).alloc (Nat.le_refl _) _)⟩ ?_
  obtain ⟨g0, hg0⟩ : ∃ z, w.heap.size = z := ⟨_, rfl⟩
  have HG0 := Lib.hid hg0
  rintro w1 ⟨I1, B1⟩
  rw [hg0] at I1 ⊢
  clear hg0
  go_wp2_with fail
  go_loopw [6, 7] (fun l j wr => ∃ (i : Nat) (a : Option Addr) (cap : Nat), i ≤ m ∧ l = .slice a i cap ∧ j = .int .i64 (i : Int) ∧ Hid (Own wr w.heap.size 110 4 a i cap (pbV ((L.take i).map IX.k))) ∧ Hid (Below w.heap.size w wr)) (fun _ j _ => m - (intOf j).toNat)
  case atStart => exact ⟨0, some ⟨g0, 0, none⟩, 0, by omega, rfl, rfl, Lib.hid (by rw [HG0.out]; exact I1.out), B1⟩
  case round =>
    clear I1 B1
    obtain ⟨i, a, cap, hi, rfl, rfl, HOW, HB⟩ := hrel
    by_cases hlt : i < m
    · have kd : decide ((i : Int) < (m : Int)) = true := decide_eq_true (by omega)
      obtain ⟨z, hzz⟩ : ∃ z, L[i]? = some z := ⟨_, List.getElem?_eq_getElem (by rw [HM.out]; exact hlt)⟩
      have hne : L ≠ [] := fun h => by rw [h] at hzz; simp at hzz
      obtain rfl := HSA.out hne
      have hA1 := HA.out hne
      have hlA : g < w.heap.size := hA1.lt
      have k0 := (HB.out.cell hA1.lt).trans (hA1.at_ i z hzz 0 _ rfl)
      have k1 := (HB.out.cell hA1.lt).trans (hA1.at_ i z hzz 1 _ rfl)
      have k2 := (HB.out.cell hA1.lt).trans (hA1.at_ i z hzz 2 _ rfl)
      have k3 := (HB.out.cell hA1.lt).trans (hA1.at_ i z hzz 3 _ rfl)
      simp only [Nat.add_zero] at k0
      have HZZ := Lib.hid (pbV_k L i (by rw [HM.out]; exact hlt) z hzz)
      obtain ⟨⟨xk, ⟨vk, vn, vs⟩⟩, xps, xn, xa, xc⟩ := z
      dsimp only at k0 k1 k2 k3 HZZ
      have k2 : wr.cell? ⟨g, off + i * 5 + 1 + 1, none⟩ = some (.int .i64 vn) := k2
      have k3 : wr.cell? ⟨g, off + i * 5 + 1 + 2, none⟩ = some (.string vs) := k3
      have ix0 : (0 : Int) ≤ (i : Int) := by omega
      have ix1 : (i : Int) < (m : Int) := by omega
      have OWD : Hid (Own wr.drew w.heap.size 110 4 a i cap (pbV ((L.take i).map IX.k))) := Lib.hid HOW.out.drew
      have HB12 : Hid (w.heap.size ≤ wr.drew.heap.size) := Lib.hid HB.out.size
      clear hne hA1 hzz HSA HOW
      go_upto_region 5 with fail
      refine wp_region_last 14 (fun w' => Below w.heap.size wr w') (by kernel_rfl) ((Below.refl _ _).drew) (fun hHeld hClosed => ?_)
      refine wpAnyL_take (i := 0) (v := ?_) rfl (by kernel_rfl) (by kernel_rfl) (by kernel_rfl) (by kernel_rfl) (fun _ _ _ h => h) (by kernel_rfl) hClosed (Or.inl ⟨by rfl, ?_⟩) hHeld (fun hClosed => ?_)
      rotate_left
      · intro wv hSw; go_simp; all_goals (with_reducible rfl)
      (try simp only [List.getElem_toArray, List.getElem_cons_zero, put_at, List.set])
      refine wpAnyL_take (i := 1) (v := ?_) rfl (by kernel_rfl) (by kernel_rfl) (by kernel_rfl) (by kernel_rfl) (fun _ _ _ h => h) (by kernel_rfl) hClosed (Or.inl ⟨by rfl, ?_⟩) hHeld (fun hClosed => ?_)
      rotate_left
      · intro wv hSw; go_simp; all_goals (with_reducible rfl)
      (try simp only [List.getElem_toArray, List.getElem_cons_succ, List.getElem_cons_zero, put_at, List.set])
      refine wpAnyL_take (i := 2) (v := ?_) rfl (by kernel_rfl) (by kernel_rfl) (by kernel_rfl) (by kernel_rfl) (fun _ _ _ h => h) (by kernel_rfl) hClosed (Or.inl ⟨by rfl, ?_⟩) hHeld (fun hClosed => ?_)
      rotate_left
      · intro wv hSw; go_simp; all_goals (with_reducible rfl)
      (try simp only [List.getElem_toArray, List.getElem_cons_succ, List.getElem_cons_zero, put_at, List.set])
      refine wpAnyL_take (i := 3) (v := ?_) rfl (by kernel_rfl) (by kernel_rfl) (by kernel_rfl) (by kernel_rfl) (fun _ _ _ h => h) (by kernel_rfl) hClosed (Or.inl ⟨by rfl, ?_⟩) hHeld (fun hClosed => ?_)
      rotate_left
      · intro wv hSw; go_simp; all_goals (with_reducible rfl)
      (try simp only [List.getElem_toArray, List.getElem_cons_succ, List.getElem_cons_zero, put_at, List.set])
      refine wpAnyL_take (i := 4) (v := ?_) rfl (by kernel_rfl) (by kernel_rfl) (by kernel_rfl) (by kernel_rfl) (fun _ _ _ h => h) (by kernel_rfl) hClosed (Or.inl ⟨by rfl, ?_⟩) hHeld (fun hClosed => ?_)
      rotate_left
      · intro wv hSw; go_simp; all_goals (with_reducible rfl)
      (try simp only [List.getElem_toArray, List.getElem_cons_succ, List.getElem_cons_zero, put_at, List.set])
      refine wpAnyL_take (i := 5) (v := ?_) rfl (by kernel_rfl) (by kernel_rfl) (by kernel_rfl) (by kernel_rfl) (fun _ _ _ h => h) (by kernel_rfl) hClosed (Or.inl ⟨by rfl, ?_⟩) hHeld (fun hClosed => ?_)
      rotate_left
      · intro wv hSw; have q0 := (hSw.cell hlA).trans k0; have q1 := (hSw.cell hlA).trans k1; have q2 := (hSw.cell hlA).trans k2; have q3 := (hSw.cell hlA).trans k3; go_simp; all_goals (with_reducible rfl)
      (try simp only [List.getElem_toArray, List.getElem_cons_succ, List.getElem_cons_zero, put_at, List.set])
      refine wpAnyL_take (i := 6) (v := ?_) rfl (by kernel_rfl) (by kernel_rfl) (by kernel_rfl) (by kernel_rfl) (fun _ _ _ h => h) (by kernel_rfl) hClosed (Or.inl ⟨by rfl, ?_⟩) hHeld (fun hClosed => ?_)
      rotate_left
      · intro wv hSw; go_simp; all_goals (with_reducible rfl)
      (try simp only [List.getElem_toArray, List.getElem_cons_succ, List.getElem_cons_zero, put_at, List.set])
      refine wpAnyL_take (i := 7) (v := ?_) rfl (by kernel_rfl) (by kernel_rfl) (by kernel_rfl) (by kernel_rfl) (fun _ _ _ h => h) (by kernel_rfl) hClosed (Or.inl ⟨by rfl, ?_⟩) hHeld (fun hClosed => ?_)
      rotate_left
      · intro wv hSw; go_simp; all_goals (with_reducible rfl)
      (try simp only [List.getElem_toArray, List.getElem_cons_succ, List.getElem_cons_zero, put_at, List.set])
      refine wpAnyL_take (i := 8) (v := ?_) rfl (by kernel_rfl) (by kernel_rfl) (by kernel_rfl) (by kernel_rfl) (fun _ _ _ h => h) (by kernel_rfl) hClosed (Or.inl ⟨by rfl, ?_⟩) hHeld (fun hClosed => ?_)
      rotate_left
      · intro wv hSw; go_simp; all_goals (with_reducible rfl)
      (try simp only [List.getElem_toArray, List.getElem_cons_succ, List.getElem_cons_zero, put_at, List.set])
      refine wpAnyL_take (i := 9) (v := ?_) rfl (by kernel_rfl) (by kernel_rfl) (by kernel_rfl) (by kernel_rfl) (fun _ _ _ h => h) (by kernel_rfl) hClosed (Or.inl ⟨by rfl, ?_⟩) hHeld (fun hClosed => ?_)
      rotate_left
      · intro wv hSw; go_simp; all_goals (with_reducible rfl)
      (try simp only [List.getElem_toArray, List.getElem_cons_succ, List.getElem_cons_zero, put_at, List.set])
      refine wpAnyL_take (i := 10) (v := ?_) rfl (by kernel_rfl) (by kernel_rfl) (by kernel_rfl) (by kernel_rfl) (fun _ _ _ h => h) (by kernel_rfl) hClosed (Or.inl ⟨by rfl, ?_⟩) hHeld (fun hClosed => ?_)
      rotate_left
      · intro wv hSw; have q0 := (hSw.cell hlA).trans k0; have q1 := (hSw.cell hlA).trans k1; have q2 := (hSw.cell hlA).trans k2; have q3 := (hSw.cell hlA).trans k3; go_simp; all_goals (with_reducible rfl)
      (try simp only [List.getElem_toArray, List.getElem_cons_succ, List.getElem_cons_zero, put_at, List.set])
      refine wpAnyL_take (i := 11) (v := ?_) rfl (by kernel_rfl) (by kernel_rfl) (by kernel_rfl) (by kernel_rfl) (fun _ _ _ h => h) (by kernel_rfl) hClosed (Or.inl ⟨by rfl, ?_⟩) hHeld (fun hClosed => ?_)
      rotate_left
      · intro wv hSw; go_simp; all_goals (with_reducible rfl)
      (try simp only [List.getElem_toArray, List.getElem_cons_succ, List.getElem_cons_zero, put_at, List.set])
      refine wpAnyL_one (i := 12) rfl (by kernel_rfl) (by kernel_rfl) hClosed (fun KK hK => ?_)
      go_simp
      refine hK.out _ _ ?_ (fun hClosed hHeld => ?_)
      · exact hHeld.alloc HB12.out _
      clear hK KK
      (first | simp only [List.getElem_toArray, List.getElem_cons_succ, List.getElem_cons_zero, put_at, List.set] | (try simp only [put_at, List.set]))
      refine wpAnyL_one (i := 13) rfl (by kernel_rfl) (by kernel_rfl) hClosed (fun KK hK => ?_)
      refine step_appE rowPar rfl _ _ rfl w.heap.size a i cap (pbV ((L.take i).map IX.k)) rfl (OWD.out.alloc _) (some ⟨wr.drew.heap.size, 0, none⟩) 1 1 [.string xk, .int .i64 vk, .int .i64 vn, .string vs] rfl rfl (rdC_ownG (Own.lit (w := wr.drew) (B := wr.drew.heap.size) (n := 1) (size := 4) (cs := #[.string xk, .int .i64 vk, .int .i64 vn, .string vs]) (E := 110) (Nat.le_refl _) (by decide) rfl)) (one_pb _ _ _ _) (by omega) (by decide) (by have := HB.out.size; simp; omega) (i + 1) rfl (pbV ((L.take (i + 1)).map IX.k)) HZZ.out ?_
      rintro a9 cap9 w9 own9 _ bel9 _
      refine hK.out _ _ ?_ (fun hClosed hHeld => ?_)
      · exact hHeld.trans bel9
      clear hK KK
      (first | simp only [List.getElem_toArray, List.getElem_cons_succ, List.getElem_cons_zero, put_at, List.set] | (try simp only [put_at, List.set]))
      refine wpAnyL_last rfl (by kernel_rfl) (by kernel_rfl) (fun KK hK => ?_)
      go_simp
      refine hK.out _ _ ?_
      (try simp only [put_at, List.set])
      have HB9 := Lib.hid (HB.out.drew.alloc HB.out.size _ |>.trans bel9)
      have HO9 := Lib.hid own9
      clear hHeld own9 bel9
      go_wp2
      go_roundw
      case rel => exact ⟨i + 1, a9, cap9, by omega, rfl, by go_num, HO9, HB9⟩
      case measure => simp [intOf]; omega
    · have kd : decide ((i : Int) < (m : Int)) = false := decide_eq_false (by omega)
      have e : i = m := by omega
      subst e
      have e2 : L.take i = L := List.take_of_length_le (by rw [HM.out]; omega)
      have HOW2 : Hid (Own wr w.heap.size 110 4 a i cap (pbV (L.map IX.k))) := Lib.hid (by have := HOW.out; rw [e2] at this; exact this)
      have hkl : (L.map IX.k).length = i := by rw [List.length_map, HM.out]
      have HSP : Hid (∃ g, (L.map IX.k ≠ [] → a = some ⟨g, 0, none⟩) ∧ (L.map IX.k ≠ [] → PbAt wr g 0 (L.map IX.k))) := Lib.hid (by
        by_cases h0 : L.map IX.k = []
        · exact ⟨0, fun h => absurd h0 h, fun h => absurd h0 h⟩
        · have : 0 < i := by rw [← hkl]; cases hh : L.map IX.k with | nil => exact absurd hh h0 | cons => simp
          obtain ⟨g, ha, _⟩ := HOW2.out.some_ this
          exact ⟨g, fun _ => ha, fun _ => pbAt_of HOW2.out ha⟩)
      obtain ⟨gp, hsp, hpt⟩ := HSP.out
      have NM := Lib.hid (rnumber7_at a gp 0 cap (L.map IX.k) (by rw [hkl]; omega) k wr hpt hsp)
      rw [hkl, HZ.out.1, HZ.out.2] at NM
      clear e2 hkl HSP hsp hpt HOW
      go_wp2_with fail
      refine NM.out.mono ?_
      rintro e w2 ⟨rfl, hb⟩
      have HB2 := Lib.hid (HB.out.trans (hb.mono HB.out.size))
      clear hb
      go_wp2
      go_ret2
      exact ⟨rfl, HB2.out⟩
end Go.Proofs.YtodibjpojfipoaaGreatDoor
