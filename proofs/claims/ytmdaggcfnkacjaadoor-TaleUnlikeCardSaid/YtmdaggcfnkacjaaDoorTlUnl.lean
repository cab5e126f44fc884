/- TaleUnlike: the walk. Written by gen_unl.py. -/
import Derived.Test.YtmdaggcfnkacjaaDoorTlRdL
import Derived.Test.YtmdaggcfnkacjaaDoorTlOpn
import Derived.Test.YtmdaggcfnkacjaaDoorTlLns
namespace Go.Proofs.YtmdaggcfnkacjaaDoor
open Go Go.RowKit
set_option linter.unusedVariables false
set_option linter.unusedSimpArgs false
set_option maxRecDepth 10000

theorem wpAnyL_take1 {P : Program} {ops : Array Oper} {Q : Exit → Act → World → Prop} {md : Region.Mode} {S : World → Prop} {k : Nat} {i : Nat} {oi : Oper} {v : Value} {fuel : Nat} {listed : Array Bool} {a : Act} {w : World} (hi : ops[i]? = some oi)
    (hs : Region.noSelect ops = true) (hf : Region.free md ops listed i = true) (hr : (Region.ready md ops listed).contains i = true) (hw : waitsFor md ops 1 k i = true)
    (hQ : ∀ c a w, Q (.panic c) (a.put oi.dst v) w → Q (.panic c) a w) (hik : (i == k) = false) (hc : Closed md ops listed) (hy : YieldsIf P ops S oi v a) (hS : S w)
    (h : Closed md ops (listed.setIfInBounds i true) → wpAnyL P md ops Q S k fuel (listed.setIfInBounds i true) (a.put oi.dst v) w) : wpAnyL P md ops Q S k (fuel + 1) listed a w :=
  wpAnyL_first hi (Region.noSelect_spec hs) hQ (by simpa using hik) hw fuel listed a w hc (Region.free_spec hi hf) (by simpa using hr) hy hS (h (hc.step (by simpa using hr)))
theorem line_any (x : Stp) (hz : SzS x) (hrg : RgS x) (ha : Option Addr) (n hc : Nat) (hn : x.hs.length = n) (w : World) (hr : RdC w ha (hdV x.hs)) (hT : TabT w) :
    Calls Tryd.prog 10 #[.agg (stA x.k x.a x.b x.c x.t ha n hc)] w fun e w' => ∃ (l : ByteArray) (ec : Int), e = .returned (.tuple #[.string l, .int .i64 ec]) ∧ Below w.heap.size w w' ∧ (ec = 1 ∨ (ec = 0 ∧ lineS (spOf x) = some (bl l))) := by
  refine (line_at x hz hrg ha n hc hn w hr hT).mono ?_
  rintro e w' ⟨hb, ⟨hx, he⟩ | ⟨l, hl, he⟩⟩
  · exact ⟨_, 1, he, hb, Or.inl rfl⟩
  · exact ⟨l, 0, he, hb, Or.inr ⟨rfl, hl⟩⟩
theorem two_lines {la lb tail : Bt} (h1 : ∀ c ∈ la, c ≠ 10) (h2 : ∀ c ∈ lb, c ≠ 10) (h3 : lb ≠ []) (ht : tail = [] ∨ tail = [10]) : lnl (la ++ 10 :: (lb ++ tail)) = [la, lb] := by
  rw [lnl_word _ _ (fun h => h1 _ h rfl)]
  rcases ht with rfl | rfl
  · rw [List.append_nil, lnl_last _ h3 (fun h => h2 _ h rfl)]
  · rw [show lb ++ [10] = lb ++ 10 :: [] from rfl, lnl_word _ _ (fun h => h2 _ h rfl), lnl_nil]
theorem add_at (a b t : ByteArray) (h : a ++ b = t) (hs : a.size + b.size ≤ 1000000) : ∀ w : World, (Op.stringOp .add a b).run Tryd.prog w = .ok (.string t) w := fun w => by
  rw [run_string_add_sum w _ _ (by omega), h]
theorem siz_two (v1 v2 : Nat) (h1 : v1 ≤ 1000000000000000) (h2 : v2 ≤ 1000000000000000) : IntKind.i64.wrap ((v1 : Int) + (v2 : Int)) = (v1 : Int) + (v2 : Int) := i64_in _ (by omega) (by omega)
theorem alike {x y : Stp} {la lb : ByteArray} (hx : lineS (spOf x) = some (bl la)) (hy : lineS (spOf y) = some (bl lb)) (rx : RgS x) (ry : RgS y) : (la.toList == lb.toList) = true ↔ x = y := by
  rw [tl_iff, decide_eq_true_iff]
  constructor
  · intro h
    subst h
    exact sp_eq.1 (line_inj hx hy rx ry)
  · intro h
    subst h
    rw [hx] at hy
    exact bl_eq (Option.some.inj hy)
set_option maxHeartbeats 8000000 in
theorem taleUnlike_walk (X Y : Stp × Option Addr × Nat) (en : Bool) (w : World) (hx : IsStp w X.1 X.2.1) (hy : IsStp w Y.1 Y.2.1) (hT : TabT w) :
    Calls Tryd.prog 6 #[.agg (stA X.1.k X.1.a X.1.b X.1.c X.1.t X.2.1 X.1.hs.length X.2.2), .agg (stA Y.1.k Y.1.a Y.1.b Y.1.c Y.1.t Y.2.1 Y.1.hs.length Y.2.2), .bool en] w fun e w' => e = .returned (.bool true) ∧ Below w.heap.size w w' := by
  obtain ⟨x, ha, hc⟩ := X
  obtain ⟨y, hb, hd⟩ := Y
  obtain ⟨xz, xg, xr⟩ := hx
  obtain ⟨yz, yg, yr⟩ := hy
  dsimp only at xz xg xr yz yg yr ⊢
  obtain ⟨n, hn⟩ : ∃ n, x.hs.length = n := ⟨_, rfl⟩
  obtain ⟨m, hm⟩ : ∃ m, y.hs.length = m := ⟨_, rfl⟩
  rw [hn, hm]
  have HT := Lib.hid hT
  have HN := Lib.hid hn
  have HM := Lib.hid hm
  have XG := Lib.hid xg
  have YG := Lib.hid yg
  have XR := Lib.hid xr
  have YR := Lib.hid yr
  have SX := Lib.hid (fun W (h : RdC W ha (hdV x.hs)) => size_at x ha n hc hn xz W h)
  have SY := Lib.hid (fun W (h : RdC W hb (hdV y.hs)) => size_at y hb m hd hm yz W h)
  clear hn hm xg yg xr yr hT xz yz
  unfold stA
  have BX0 := Box.new w #[.int .i64 x.k, .int .i64 x.a, .int .i64 x.b, .int .i64 x.c, .string x.t, .slice ha n hc] 24
  have BY0 := Box.new (w.alloc (.cells #[.int .i64 x.k, .int .i64 x.a, .int .i64 x.b, .int .i64 x.c, .string x.t, .slice ha n hc] 24)) #[.int .i64 y.k, .int .i64 y.a, .int .i64 y.b, .int .i64 y.c, .string y.t, .slice hb m hd] 24
  rw [World.size_alloc] at BY0
  go_enter Tryd.func6, Tryd.ntmps6
  go_upto_region 1 with fail
  refine code_forget (fun W => Hid (Box W w.heap.size #[.int .i64 x.k, .int .i64 x.a, .int .i64 x.b, .int .i64 x.c, .string x.t, .slice ha n hc] 24) ∧ Hid (Box W (w.heap.size + 1) #[.int .i64 y.k, .int .i64 y.a, .int .i64 y.b, .int .i64 y.c, .string y.t, .slice hb m hd] 24) ∧ Hid (Below w.heap.size w W)) ⟨Lib.hid (BX0.alloc _), Lib.hid BY0, Lib.hid (((Below.refl w.heap.size w).alloc (Nat.le_refl _) _).alloc (by simp) _)⟩ ?_
  clear BX0 BY0
  obtain ⟨ax, hax⟩ : ∃ b, w.heap.size = b := ⟨_, rfl⟩
  obtain ⟨ay, hay⟩ : ∃ b, w.heap.size + 1 = b := ⟨_, rfl⟩
  rw [hay]
  rintro w1 ⟨BX, BY, B1⟩
  rw [hax] at BX ⊢
  have HAX := Lib.hid hax
  clear hay hax
  go_cut [20] (fun v wx => ∃ q : Bool, v = .bool q ∧ Hid (q = false → szS x + szS y ≤ 2000) ∧ Hid (Box wx ax #[.int .i64 x.k, .int .i64 x.a, .int .i64 x.b, .int .i64 x.c, .string x.t, .slice ha n hc] 24 ∧ Box wx ay #[.int .i64 y.k, .int .i64 y.a, .int .i64 y.b, .int .i64 y.c, .string y.t, .slice hb m hd] 24 ∧ Below w.heap.size w wx))
  case first =>
    refine wp_region_last 5 (fun w' => Box w' ax #[.int .i64 x.k, .int .i64 x.a, .int .i64 x.b, .int .i64 x.c, .string x.t, .slice ha n hc] 24 ∧ Box w' ay #[.int .i64 y.k, .int .i64 y.a, .int .i64 y.b, .int .i64 y.c, .string y.t, .slice hb m hd] 24 ∧ Below w.heap.size w w') (by kernel_rfl) (⟨BX.out.drew, BY.out.drew, B1.out.drew⟩) (fun hHeld hClosed => ?_)
    refine wpAnyL_take (i := 0) (v := (.agg #[.int .i64 x.k, .int .i64 x.a, .int .i64 x.b, .int .i64 x.c, .string x.t, .slice ha n hc])) rfl (by kernel_rfl) (by kernel_rfl) (by kernel_rfl) (by kernel_rfl) (fun _ _ _ h => h) (by kernel_rfl) hClosed (Or.inl ⟨by rfl, ?_⟩) hHeld (fun hClosed => ?_)
    · intro wv hSw; exact exec_load_box (by rfl) (by rfl) hSw.1 Tryd.underlying24 rfl (by kernel_rfl)
    (try simp only [List.getElem_toArray, List.getElem_cons_zero, put_at, List.set])
    refine wpAnyL_take (i := 2) (v := (.agg #[.int .i64 y.k, .int .i64 y.a, .int .i64 y.b, .int .i64 y.c, .string y.t, .slice hb m hd])) rfl (by kernel_rfl) (by kernel_rfl) (by kernel_rfl) (by kernel_rfl) (fun _ _ _ h => h) (by kernel_rfl) hClosed (Or.inl ⟨by rfl, ?_⟩) hHeld (fun hClosed => ?_)
    · intro wv hSw; exact exec_load_box (by rfl) (by rfl) hSw.2.1 Tryd.underlying24 rfl (by kernel_rfl)
    (try simp only [List.getElem_toArray, List.getElem_cons_succ, List.getElem_cons_zero, put_at, List.set])
    refine wpAnyL_one (i := 1) rfl (by kernel_rfl) (by kernel_rfl) hClosed (fun KK hK => ?_)
    go_simp
    refine (SX.out _ (XR.out.later (hHeld.2.2))).mono ?_
    rintro ee wq1 ⟨v1, rfl, hwq1, hv1, hs1⟩
    go_wp2_with fail
    refine hK.out _ _ ?_ (fun hClosed hHeld => ?_)
    · exact ⟨hHeld.1.later hwq1, hHeld.2.1.later hwq1, hHeld.2.2.trans (hwq1.mono hHeld.2.2.size)⟩
    clear hK KK
    (first | simp only [List.getElem_toArray, List.getElem_cons_succ, List.getElem_cons_zero, put_at, List.set] | (try simp only [put_at, List.set]))
    refine wpAnyL_one (i := 3) rfl (by kernel_rfl) (by kernel_rfl) hClosed (fun KK hK => ?_)
    go_simp
    refine (SY.out _ (YR.out.later (hHeld.2.2))).mono ?_
    rintro ee wq2 ⟨v2, rfl, hwq2, hv2, hs2⟩
    go_wp2_with fail
    refine hK.out _ _ ?_ (fun hClosed hHeld => ?_)
    · exact ⟨hHeld.1.later hwq2, hHeld.2.1.later hwq2, hHeld.2.2.trans (hwq2.mono hHeld.2.2.size)⟩
    clear hK KK
    (first | simp only [List.getElem_toArray, List.getElem_cons_succ, List.getElem_cons_zero, put_at, List.set] | (try simp only [put_at, List.set]))
    refine wpAnyL_take (i := 4) (v := (.int .i64 ((v1 : Int) + (v2 : Int)))) rfl (by kernel_rfl) (by kernel_rfl) (by kernel_rfl) (by kernel_rfl) (fun _ _ _ h => h) (by kernel_rfl) hClosed (Or.inl ⟨by rfl, ?_⟩) hHeld (fun hClosed => ?_)
    · intro wv hSw; have hwr := siz_two v1 v2 hv1 hv2; go_simp; all_goals (with_reducible rfl)
    (try simp only [List.getElem_toArray, List.getElem_cons_succ, List.getElem_cons_zero, put_at, List.set])
    refine wpAnyL_last rfl (by kernel_rfl) (by kernel_rfl) (fun KK hK => ?_)
    go_simp
    refine hK.out _ _ ?_
    (try simp only [put_at, List.set])
    obtain ⟨q, hq⟩ : ∃ q, decide (2000 < (v1 : Int) + (v2 : Int)) = q := ⟨_, rfl⟩
    have hq2 : decide ((v1 : Int) + (v2 : Int) > 2000) = q := hq
    have HQ : Hid (q = false → szS x + szS y ≤ 2000) := Lib.hid (fun h => by rw [h] at hq; have := of_decide_eq_false hq; rw [← hs1 (by omega), ← hs2 (by omega)]; omega)
    have HH := Lib.hid hHeld
    clear hHeld hs1 hs2
    go_wp2_with fail
    go_meet
    exact ⟨q, (by simp only [hq, hq2]), HQ, HH.out⟩
  case rest =>
    obtain ⟨q, rfl, HQ, HH⟩ := hcut
    have BX := Lib.hid HH.out.1
    have BY := Lib.hid HH.out.2.1
    have B1 := Lib.hid HH.out.2.2
    clear HH
    cases q with
    | true =>
      have AW := Lib.hid (awake24 wc (HT.out.later (B1.out)))
      go_wp2_with fail
      refine AW.out.mono ?_
      rintro ee wz ⟨rfl, hb9⟩
      have BE := Lib.hid (B1.out.trans (hb9.mono B1.out.size))
      go_wp2
      go_ret
      exact ⟨rfl, HAX.out ▸ BE.out⟩
    | false =>
      have HS := Lib.hid (HQ.out rfl)
      have ZX : Hid (SzS x) := Lib.hid (szS_szS (by have := HS.out; omega))
      have ZY : Hid (SzS y) := Lib.hid (szS_szS (by have := HS.out; omega))
      clear HQ SX SY
      have s0 := BX.out.cell 0
      have s1 := BX.out.cell 1
      have s2 := BX.out.cell 2
      have s3 := BX.out.cell 3
      have s4 := BX.out.cell 4
      have s5 := BX.out.cell 5
      have ls := BX.out.lt
      go_wp2_with fail
      refine (line_any x ZX.out XG.out ha n hc HN.out _ (XR.out.later (B1.out)) (HT.out.later (B1.out))).mono ?_
      rintro ee w2 ⟨la, e1, rfl, hb2, hl1⟩
      have BX2 := Lib.hid (BX.out.later hb2)
      have BY2 := Lib.hid (BY.out.later hb2)
      have B2 := Lib.hid (B1.out.trans (hb2.mono B1.out.size))
      have HL1 := Lib.hid hl1
      clear hb2 hl1 BX BY B1 s0 s1 s2 s3 s4 s5 ls
      have s0 := BY2.out.cell 0
      have s1 := BY2.out.cell 1
      have s2 := BY2.out.cell 2
      have s3 := BY2.out.cell 3
      have s4 := BY2.out.cell 4
      have s5 := BY2.out.cell 5
      have ls := BY2.out.lt
      go_wp2_with fail
      refine (line_any y ZY.out YG.out hb m hd HM.out _ (YR.out.later (B2.out)) (HT.out.later (B2.out))).mono ?_
      rintro ee w3 ⟨lb, e2, rfl, hb3, hl2⟩
      have BX3 := Lib.hid (BX2.out.later hb3)
      have BY3 := Lib.hid (BY2.out.later hb3)
      have B3 := Lib.hid (B2.out.trans (hb3.mono B2.out.size))
      clear hb3 BX2 BY2 B2 s0 s1 s2 s3 s4 s5 ls
      rcases HL1.out with e1' | ⟨e1', hl1⟩
      · subst e1'
        clear HL1
        have AW := Lib.hid (awake24 w3 (HT.out.later (B3.out)))
        go_wp2_with fail
        refine AW.out.mono ?_
        rintro ee wz ⟨rfl, hb9⟩
        have BE := Lib.hid (B3.out.trans (hb9.mono B3.out.size))
        go_wp2
        go_ret
        exact ⟨rfl, HAX.out ▸ BE.out⟩
      subst e1'
      rcases hl2 with e2' | ⟨e2', hl2⟩
      · subst e2'
        clear HL1 hl1
        have AW := Lib.hid (awake24 w3 (HT.out.later (B3.out)))
        go_wp2_with fail
        refine AW.out.mono ?_
        rintro ee wz ⟨rfl, hb9⟩
        have BE := Lib.hid (B3.out.trans (hb9.mono B3.out.size))
        go_wp2
        go_ret
        exact ⟨rfl, HAX.out ▸ BE.out⟩
      subst e2'
      clear HL1
      have ALK := Lib.hid (alike hl1 hl2 XG.out YG.out)
      have hz1 : la.size ≤ 5000 := by
        have := line_len hl1 XG.out
        have := HS.out
        rw [bl_len] at *
        omega
      have hz2 : lb.size ≤ 5000 := by
        have := line_len hl2 YG.out
        have := HS.out
        rw [bl_len] at *
        omega
      have n1 := line_no hl1
      have n2 := line_no hl2
      have n3 := line_ne hl2
      obtain ⟨t1, ht1⟩ : ∃ t, la ++ (⟨#[10]⟩ : ByteArray) = t := ⟨_, rfl⟩
      obtain ⟨t2, ht2⟩ : ∃ t, t1 ++ lb = t := ⟨_, rfl⟩
      obtain ⟨t3, ht3⟩ : ∃ t, t2 ++ (⟨#[10]⟩ : ByteArray) = t := ⟨_, rfl⟩
      have h10 : (⟨#[10]⟩ : ByteArray).size = 1 := rfl
      have z1 : t1.size = la.size + 1 := by rw [← ht1, ByteArray.size_append]; rfl
      have z2 : t2.size = t1.size + lb.size := by rw [← ht2, ByteArray.size_append]
      have z3 : t3.size = t2.size + 1 := by rw [← ht3, ByteArray.size_append]; rfl
      have A1 := add_at la ⟨#[10]⟩ t1 ht1 (by omega)
      have A2 := add_at t1 lb t2 ht2 (by omega)
      have A3 := add_at t2 ⟨#[10]⟩ t3 ht3 (by omega)
      have f2 : bl t2 = bl la ++ 10 :: (bl lb ++ []) := by
        rw [← ht2, ← ht1]
        simp [bl]
      have f3 : bl t3 = bl la ++ 10 :: (bl lb ++ [10]) := by
        rw [← ht3, ← ht2, ← ht1]
        simp [bl]
      have L2 : lnl (bl t2) = [bl la, bl lb] := by rw [f2]; exact two_lines n1 n2 n3 (Or.inl rfl)
      have L3 : lnl (bl t3) = [bl la, bl lb] := by rw [f3]; exact two_lines n1 n2 n3 (Or.inr rfl)
      have P2 := step_of_line hl1 (rng_sp XG.out)
      have P3 := step_of_line hl2 (rng_sp YG.out)
      have LL : ∀ t : ByteArray, lnl (bl t) = [bl la, bl lb] → (lnB t).map (fun x => stepS (bl x)) = [x, y].map (fun x => some (spOf x)) := fun t h => by
        unfold lnB
        rw [h]
        simp only [List.map_cons, List.map_nil, bl_stB, P2, P3]
      have HL2 := Lib.hid (LL t2 L2)
      have HL3 := Lib.hid (LL t3 L3)
      have HZ : Hid (t2.size ≤ 20000 ∧ t3.size ≤ 20000) := Lib.hid ⟨by omega, by omega⟩
      clear z1 z2 z3 h10 ht1 ht2 ht3 f2 f3 L2 L3 P2 P3 LL n1 n2 n3 hl1 hl2 hz1 hz2
      go_upto_if 43 with fail
      go_cut [11] (fun v wx => ∃ T : ByteArray, v = .string T ∧ Hid ((lnB T).map (fun x => stepS (bl x)) = [x, y].map (fun x => some (spOf x))) ∧ Hid (T.size ≤ 20000) ∧ wx = w3)
      case first =>
        cases en with
        | true =>
          go_wp2
          go_meet
          exact ⟨t3, rfl, HL3, Lib.hid HZ.out.2, rfl⟩
        | false =>
          go_wp2
          go_meet
          exact ⟨t2, rfl, HL2, Lib.hid HZ.out.1, rfl⟩
      case rest =>
      obtain ⟨T, rfl, HTL, HTZ, he⟩ := hcut
      have he := he.symm
      subst he
      clear HL2 HL3 HZ A1 A2 A3
      go_wp2_with fail
      refine (read_as T [x, y] 2 rfl HTL.out (by have := HTZ.out; omega) _ (HT.out.later (B3.out))).mono ?_
      rintro ee w4 ⟨ga, gc, ys, rfl, hys, ho, hok, hb4⟩
      match ys, hys with
      | [⟨x', za, zc⟩, ⟨y', zb, zd⟩], hys =>
        injection hys with e1 hys
        injection hys with e2 hys
        dsimp only at e1 e2
        subst e1 e2
        obtain ⟨g, rfl, _, _⟩ := ho.some_ (by decide)
        have RX := Lib.hid (rdc_own (hok ⟨x', za, zc⟩ (by simp)) (by decide))
        have RY := Lib.hid (rdc_own (hok ⟨y', zb, zd⟩ (by simp)) (by decide))
        dsimp only at RX RY
        have B4 := Lib.hid (B3.out.trans (hb4.mono B3.out.size))
        have BX4 := Lib.hid (BX3.out.later hb4)
        have BY4 := Lib.hid (BY3.out.later hb4)
        have C0 := Lib.hid (show w4.cell? ⟨g, 0, none⟩ = some (.int .i64 x'.k) from ho.cell (j := 0) rfl)
        have C1 := Lib.hid (show w4.cell? ⟨g, 1, none⟩ = some (.int .i64 x'.a) from ho.cell (j := 1) rfl)
        have C2 := Lib.hid (show w4.cell? ⟨g, 2, none⟩ = some (.int .i64 x'.b) from ho.cell (j := 2) rfl)
        have C3 := Lib.hid (show w4.cell? ⟨g, 3, none⟩ = some (.int .i64 x'.c) from ho.cell (j := 3) rfl)
        have C4 := Lib.hid (show w4.cell? ⟨g, 4, none⟩ = some (.string x'.t) from ho.cell (j := 4) rfl)
        have C5 := Lib.hid (show w4.cell? ⟨g, 5, none⟩ = some (.slice za n zc) from HN.out ▸ ho.cell (j := 5) rfl)
        have C6 := Lib.hid (show w4.cell? ⟨g, 6, none⟩ = some (.int .i64 y'.k) from ho.cell (j := 6) rfl)
        have C7 := Lib.hid (show w4.cell? ⟨g, 7, none⟩ = some (.int .i64 y'.a) from ho.cell (j := 7) rfl)
        have C8 := Lib.hid (show w4.cell? ⟨g, 8, none⟩ = some (.int .i64 y'.b) from ho.cell (j := 8) rfl)
        have C9 := Lib.hid (show w4.cell? ⟨g, 9, none⟩ = some (.int .i64 y'.c) from ho.cell (j := 9) rfl)
        have C10 := Lib.hid (show w4.cell? ⟨g, 10, none⟩ = some (.string y'.t) from ho.cell (j := 10) rfl)
        have C11 := Lib.hid (show w4.cell? ⟨g, 11, none⟩ = some (.slice zb m zd) from HM.out ▸ ho.cell (j := 11) rfl)
        obtain ⟨p, hp⟩ : ∃ p, (la.toList == lb.toList) = p := ⟨_, rfl⟩
        have AWK : Hid (∀ W, Below w4.heap.size w4 W → Calls Tryd.prog 9 #[] W fun e w' => e = .returned (.bool true) ∧ Below W.heap.size W w') := Lib.hid (fun W hW => awake24 W (HT.out.later ((B4.out.trans (hW.mono B4.out.size)))))
        have SAB : Hid (∀ W, Below w4.heap.size w4 W → Calls Tryd.prog 13 #[.agg #[.int .i64 x'.k, .int .i64 x'.a, .int .i64 x'.b, .int .i64 x'.c, .string x'.t, .slice ha n hc], .agg #[.int .i64 y'.k, .int .i64 y'.a, .int .i64 y'.b, .int .i64 y'.c, .string y'.t, .slice hb m hd]] W fun e w' => e = .returned (.bool p) ∧ Below W.heap.size W w') := Lib.hid (fun W hW =>
          (same_at x' y' ha hb n m hc hd HN.out HM.out (by have := ZX.out.2.1; have := HN.out; omega) W (XR.out.later ((B4.out.trans (hW.mono B4.out.size)))) (YR.out.later ((B4.out.trans (hW.mono B4.out.size))))).mono (fun e w' ⟨q, he, hq, hb⟩ => ⟨by
            have e9 : q = p := by
              have h9 := ALK.out
              rw [hp] at h9
              rw [Bool.eq_iff_iff, hq, h9]
            rw [he, e9], hb⟩))
        have SXX : Hid (∀ W, Below w4.heap.size w4 W → Calls Tryd.prog 13 #[.agg #[.int .i64 x'.k, .int .i64 x'.a, .int .i64 x'.b, .int .i64 x'.c, .string x'.t, .slice za n zc], .agg #[.int .i64 x'.k, .int .i64 x'.a, .int .i64 x'.b, .int .i64 x'.c, .string x'.t, .slice ha n hc]] W fun e w' => e = .returned (.bool true) ∧ Below W.heap.size W w') := Lib.hid (fun W hW =>
          (same_at x' x' za ha n n zc hc HN.out HN.out (by have := ZX.out.2.1; have := HN.out; omega) W (RX.out.later hW) (XR.out.later ((B4.out.trans (hW.mono B4.out.size))))).mono (fun e w' ⟨q, he, hq, hb⟩ => ⟨by rw [he, hq.2 rfl], hb⟩))
        have SYY : Hid (∀ W, Below w4.heap.size w4 W → Calls Tryd.prog 13 #[.agg #[.int .i64 y'.k, .int .i64 y'.a, .int .i64 y'.b, .int .i64 y'.c, .string y'.t, .slice zb m zd], .agg #[.int .i64 y'.k, .int .i64 y'.a, .int .i64 y'.b, .int .i64 y'.c, .string y'.t, .slice hb m hd]] W fun e w' => e = .returned (.bool true) ∧ Below W.heap.size W w') := Lib.hid (fun W hW =>
          (same_at y' y' zb hb m m zd hd HM.out HM.out (by have := ZY.out.2.1; have := HM.out; omega) W (RY.out.later hW) (YR.out.later ((B4.out.trans (hW.mono B4.out.size))))).mono (fun e w' ⟨q, he, hq, hb⟩ => ⟨by rw [he, hq.2 rfl], hb⟩))
        clear ho hok hb4 hys ALK BX3 BY3 B3
        go_upto_region 11 with fail
        refine wp_region_last 37 (fun w' => Box w' ax #[.int .i64 x'.k, .int .i64 x'.a, .int .i64 x'.b, .int .i64 x'.c, .string x'.t, .slice ha n hc] 24 ∧ Box w' ay #[.int .i64 y'.k, .int .i64 y'.a, .int .i64 y'.b, .int .i64 y'.c, .string y'.t, .slice hb m hd] 24 ∧ Below w4.heap.size w4 w') (by kernel_rfl) (⟨BX4.out.drew, BY4.out.drew, (Below.refl _ _).drew⟩) (fun hHeld hClosed => ?_)
        refine wpAnyL_one (i := 0) rfl (by kernel_rfl) (by kernel_rfl) hClosed (fun KK hK => ?_)
        go_simp
        refine (AWK.out _ hHeld.2.2).mono ?_
        rintro ee wq ⟨rfl, hwq⟩
        go_wp2_with fail
        refine hK.out _ _ ?_ (fun hClosed hHeld => ?_)
        · exact ⟨hHeld.1.later hwq, hHeld.2.1.later hwq, hHeld.2.2.trans (hwq.mono hHeld.2.2.size)⟩
        clear hK KK
        (first | simp only [List.getElem_toArray, List.getElem_cons_zero, put_at, List.set] | (try simp only [put_at, List.set]))
        refine wpAnyL_take1 (i := 1) (v := ?_) rfl (by kernel_rfl) (by kernel_rfl) (by kernel_rfl) (by kernel_rfl) (fun _ _ _ h => h) (by kernel_rfl) hClosed (Or.inl ⟨by rfl, ?_⟩) hHeld (fun hClosed => ?_)
        rotate_left
        · intro wv hSw; go_simp; all_goals (with_reducible rfl)
        (try simp only [List.getElem_toArray, List.getElem_cons_succ, List.getElem_cons_zero, put_at, List.set])
        refine wpAnyL_take1 (i := 2) (v := ?_) rfl (by kernel_rfl) (by kernel_rfl) (by kernel_rfl) (by kernel_rfl) (fun _ _ _ h => h) (by kernel_rfl) hClosed (Or.inl ⟨by rfl, ?_⟩) hHeld (fun hClosed => ?_)
        rotate_left
        · intro wv hSw; go_simp; all_goals (with_reducible rfl)
        (try simp only [List.getElem_toArray, List.getElem_cons_succ, List.getElem_cons_zero, put_at, List.set])
        refine wpAnyL_take1 (i := 3) (v := ?_) rfl (by kernel_rfl) (by kernel_rfl) (by kernel_rfl) (by kernel_rfl) (fun _ _ _ h => h) (by kernel_rfl) hClosed (Or.inl ⟨by rfl, ?_⟩) hHeld (fun hClosed => ?_)
        rotate_left
        · intro wv hSw; go_simp; all_goals (with_reducible rfl)
        (try simp only [List.getElem_toArray, List.getElem_cons_succ, List.getElem_cons_zero, put_at, List.set])
        refine wpAnyL_take1 (i := 4) (v := ?_) rfl (by kernel_rfl) (by kernel_rfl) (by kernel_rfl) (by kernel_rfl) (fun _ _ _ h => h) (by kernel_rfl) hClosed (Or.inl ⟨by rfl, ?_⟩) hHeld (fun hClosed => ?_)
        rotate_left
        · intro wv hSw; go_simp; all_goals (with_reducible rfl)
        (try simp only [List.getElem_toArray, List.getElem_cons_succ, List.getElem_cons_zero, put_at, List.set])
        refine wpAnyL_take1 (i := 5) (v := (.agg #[.int .i64 x'.k, .int .i64 x'.a, .int .i64 x'.b, .int .i64 x'.c, .string x'.t, .slice ha n hc])) rfl (by kernel_rfl) (by kernel_rfl) (by kernel_rfl) (by kernel_rfl) (fun _ _ _ h => h) (by kernel_rfl) hClosed (Or.inl ⟨by rfl, ?_⟩) hHeld (fun hClosed => ?_)
        · intro wv hSw; exact exec_load_box (by rfl) (by rfl) hSw.1 Tryd.underlying24 rfl (by kernel_rfl)
        (try simp only [List.getElem_toArray, List.getElem_cons_succ, List.getElem_cons_zero, put_at, List.set])
        refine wpAnyL_take1 (i := 6) (v := (.agg #[.int .i64 y'.k, .int .i64 y'.a, .int .i64 y'.b, .int .i64 y'.c, .string y'.t, .slice hb m hd])) rfl (by kernel_rfl) (by kernel_rfl) (by kernel_rfl) (by kernel_rfl) (fun _ _ _ h => h) (by kernel_rfl) hClosed (Or.inl ⟨by rfl, ?_⟩) hHeld (fun hClosed => ?_)
        · intro wv hSw; exact exec_load_box (by rfl) (by rfl) hSw.2.1 Tryd.underlying24 rfl (by kernel_rfl)
        (try simp only [List.getElem_toArray, List.getElem_cons_succ, List.getElem_cons_zero, put_at, List.set])
        refine wpAnyL_one (i := 7) rfl (by kernel_rfl) (by kernel_rfl) hClosed (fun KK hK => ?_)
        go_simp
        refine (SAB.out _ hHeld.2.2).mono ?_
        rintro ee wq ⟨rfl, hwq⟩
        go_wp2_with fail
        refine hK.out _ _ ?_ (fun hClosed hHeld => ?_)
        · exact ⟨hHeld.1.later hwq, hHeld.2.1.later hwq, hHeld.2.2.trans (hwq.mono hHeld.2.2.size)⟩
        clear hK KK
        (first | simp only [List.getElem_toArray, List.getElem_cons_succ, List.getElem_cons_zero, put_at, List.set] | (try simp only [put_at, List.set]))
        refine wpAnyL_take1 (i := 8) (v := ?_) rfl (by kernel_rfl) (by kernel_rfl) (by kernel_rfl) (by kernel_rfl) (fun _ _ _ h => h) (by kernel_rfl) hClosed (Or.inl ⟨by rfl, ?_⟩) hHeld (fun hClosed => ?_)
        rotate_left
        · intro wv hSw; go_simp; all_goals (with_reducible rfl)
        (try simp only [List.getElem_toArray, List.getElem_cons_succ, List.getElem_cons_zero, put_at, List.set])
        refine wpAnyL_take1 (i := 9) (v := ?_) rfl (by kernel_rfl) (by kernel_rfl) (by kernel_rfl) (by kernel_rfl) (fun _ _ _ h => h) (by kernel_rfl) hClosed (Or.inl ⟨by rfl, ?_⟩) hHeld (fun hClosed => ?_)
        rotate_left
        · intro wv hSw; go_simp; all_goals (with_reducible rfl)
        (try simp only [List.getElem_toArray, List.getElem_cons_succ, List.getElem_cons_zero, put_at, List.set])
        refine wpAnyL_take1 (i := 10) (v := ?_) rfl (by kernel_rfl) (by kernel_rfl) (by kernel_rfl) (by kernel_rfl) (fun _ _ _ h => h) (by kernel_rfl) hClosed (Or.inl ⟨by rfl, ?_⟩) hHeld (fun hClosed => ?_)
        rotate_left
        · intro wv hSw; go_simp; all_goals (with_reducible rfl)
        (try simp only [List.getElem_toArray, List.getElem_cons_succ, List.getElem_cons_zero, put_at, List.set])
        refine wpAnyL_take1 (i := 11) (v := ?_) rfl (by kernel_rfl) (by kernel_rfl) (by kernel_rfl) (by kernel_rfl) (fun _ _ _ h => h) (by kernel_rfl) hClosed (Or.inl ⟨by rfl, ?_⟩) hHeld (fun hClosed => ?_)
        rotate_left
        · intro wv hSw; go_simp; all_goals (with_reducible rfl)
        (try simp only [List.getElem_toArray, List.getElem_cons_succ, List.getElem_cons_zero, put_at, List.set])
        refine wpAnyL_take1 (i := 12) (v := ?_) rfl (by kernel_rfl) (by kernel_rfl) (by kernel_rfl) (by kernel_rfl) (fun _ _ _ h => h) (by kernel_rfl) hClosed (Or.inl ⟨by rfl, ?_⟩) hHeld (fun hClosed => ?_)
        rotate_left
        · intro wv hSw; go_simp; all_goals (with_reducible rfl)
        (try simp only [List.getElem_toArray, List.getElem_cons_succ, List.getElem_cons_zero, put_at, List.set])
        refine wpAnyL_take1 (i := 13) (v := ?_) rfl (by kernel_rfl) (by kernel_rfl) (by kernel_rfl) (by kernel_rfl) (fun _ _ _ h => h) (by kernel_rfl) hClosed (Or.inl ⟨by rfl, ?_⟩) hHeld (fun hClosed => ?_)
        rotate_left
        · intro wv hSw; go_simp; all_goals (with_reducible rfl)
        (try simp only [List.getElem_toArray, List.getElem_cons_succ, List.getElem_cons_zero, put_at, List.set])
        refine wpAnyL_take1 (i := 14) (v := ?_) rfl (by kernel_rfl) (by kernel_rfl) (by kernel_rfl) (by kernel_rfl) (fun _ _ _ h => h) (by kernel_rfl) hClosed (Or.inl ⟨by rfl, ?_⟩) hHeld (fun hClosed => ?_)
        rotate_left
        · intro wv hSw; go_simp; all_goals (with_reducible rfl)
        (try simp only [List.getElem_toArray, List.getElem_cons_succ, List.getElem_cons_zero, put_at, List.set])
        refine wpAnyL_take1 (i := 15) (v := ?_) rfl (by kernel_rfl) (by kernel_rfl) (by kernel_rfl) (by kernel_rfl) (fun _ _ _ h => h) (by kernel_rfl) hClosed (Or.inl ⟨by rfl, ?_⟩) hHeld (fun hClosed => ?_)
        rotate_left
        · intro wv hSw; go_simp; all_goals (with_reducible rfl)
        (try simp only [List.getElem_toArray, List.getElem_cons_succ, List.getElem_cons_zero, put_at, List.set])
        refine wpAnyL_take1 (i := 16) (v := ?_) rfl (by kernel_rfl) (by kernel_rfl) (by kernel_rfl) (by kernel_rfl) (fun _ _ _ h => h) (by kernel_rfl) hClosed (Or.inl ⟨by rfl, ?_⟩) hHeld (fun hClosed => ?_)
        rotate_left
        · intro wv hSw; go_simp; all_goals (with_reducible rfl)
        (try simp only [List.getElem_toArray, List.getElem_cons_succ, List.getElem_cons_zero, put_at, List.set])
        refine wpAnyL_take1 (i := 17) (v := ?_) rfl (by kernel_rfl) (by kernel_rfl) (by kernel_rfl) (by kernel_rfl) (fun _ _ _ h => h) (by kernel_rfl) hClosed (Or.inl ⟨by rfl, ?_⟩) hHeld (fun hClosed => ?_)
        rotate_left
        · intro wv hSw; go_simp; all_goals (with_reducible rfl)
        (try simp only [List.getElem_toArray, List.getElem_cons_succ, List.getElem_cons_zero, put_at, List.set])
        refine wpAnyL_take1 (i := 18) (v := ?_) rfl (by kernel_rfl) (by kernel_rfl) (by kernel_rfl) (by kernel_rfl) (fun _ _ _ h => h) (by kernel_rfl) hClosed (Or.inl ⟨by rfl, ?_⟩) hHeld (fun hClosed => ?_)
        rotate_left
        · intro wv hSw; go_simp; all_goals (with_reducible rfl)
        (try simp only [List.getElem_toArray, List.getElem_cons_succ, List.getElem_cons_zero, put_at, List.set])
        refine wpAnyL_take1 (i := 19) (v := ?_) rfl (by kernel_rfl) (by kernel_rfl) (by kernel_rfl) (by kernel_rfl) (fun _ _ _ h => h) (by kernel_rfl) hClosed (Or.inl ⟨by rfl, ?_⟩) hHeld (fun hClosed => ?_)
        rotate_left
        · intro wv hSw; go_simp; all_goals (with_reducible rfl)
        (try simp only [List.getElem_toArray, List.getElem_cons_succ, List.getElem_cons_zero, put_at, List.set])
        refine wpAnyL_take1 (i := 20) (v := ?_) rfl (by kernel_rfl) (by kernel_rfl) (by kernel_rfl) (by kernel_rfl) (fun _ _ _ h => h) (by kernel_rfl) hClosed (Or.inl ⟨by rfl, ?_⟩) hHeld (fun hClosed => ?_)
        rotate_left
        · intro wv hSw; go_simp; all_goals (with_reducible rfl)
        (try simp only [List.getElem_toArray, List.getElem_cons_succ, List.getElem_cons_zero, put_at, List.set])
        refine wpAnyL_take1 (i := 21) (v := ?_) rfl (by kernel_rfl) (by kernel_rfl) (by kernel_rfl) (by kernel_rfl) (fun _ _ _ h => h) (by kernel_rfl) hClosed (Or.inl ⟨by rfl, ?_⟩) hHeld (fun hClosed => ?_)
        rotate_left
        · intro wv hSw; go_simp; all_goals (with_reducible rfl)
        (try simp only [List.getElem_toArray, List.getElem_cons_succ, List.getElem_cons_zero, put_at, List.set])
        refine wpAnyL_take1 (i := 22) (v := ?_) rfl (by kernel_rfl) (by kernel_rfl) (by kernel_rfl) (by kernel_rfl) (fun _ _ _ h => h) (by kernel_rfl) hClosed (Or.inl ⟨by rfl, ?_⟩) hHeld (fun hClosed => ?_)
        rotate_left
        · intro wv hSw; go_simp; all_goals (with_reducible rfl)
        (try simp only [List.getElem_toArray, List.getElem_cons_succ, List.getElem_cons_zero, put_at, List.set])
        refine wpAnyL_take1 (i := 23) (v := ?_) rfl (by kernel_rfl) (by kernel_rfl) (by kernel_rfl) (by kernel_rfl) (fun _ _ _ h => h) (by kernel_rfl) hClosed (Or.inl ⟨by rfl, ?_⟩) hHeld (fun hClosed => ?_)
        rotate_left
        · intro wv hSw; go_simp; all_goals (with_reducible rfl)
        (try simp only [List.getElem_toArray, List.getElem_cons_succ, List.getElem_cons_zero, put_at, List.set])
        refine wpAnyL_take1 (i := 24) (v := ?_) rfl (by kernel_rfl) (by kernel_rfl) (by kernel_rfl) (by kernel_rfl) (fun _ _ _ h => h) (by kernel_rfl) hClosed (Or.inl ⟨by rfl, ?_⟩) hHeld (fun hClosed => ?_)
        rotate_left
        · intro wv hSw; go_simp; all_goals (with_reducible rfl)
        (try simp only [List.getElem_toArray, List.getElem_cons_succ, List.getElem_cons_zero, put_at, List.set])
        refine wpAnyL_take1 (i := 25) (v := ?_) rfl (by kernel_rfl) (by kernel_rfl) (by kernel_rfl) (by kernel_rfl) (fun _ _ _ h => h) (by kernel_rfl) hClosed (Or.inl ⟨by rfl, ?_⟩) hHeld (fun hClosed => ?_)
        rotate_left
        · intro wv hSw; go_simp; all_goals (with_reducible rfl)
        (try simp only [List.getElem_toArray, List.getElem_cons_succ, List.getElem_cons_zero, put_at, List.set])
        refine wpAnyL_take1 (i := 26) (v := ?_) rfl (by kernel_rfl) (by kernel_rfl) (by kernel_rfl) (by kernel_rfl) (fun _ _ _ h => h) (by kernel_rfl) hClosed (Or.inl ⟨by rfl, ?_⟩) hHeld (fun hClosed => ?_)
        rotate_left
        · intro wv hSw; have c0 := (hSw.2.2.cell (World.block_lt_of_cell? _ _ C0.out)).trans C0.out; have c1 := (hSw.2.2.cell (World.block_lt_of_cell? _ _ C1.out)).trans C1.out; have c2 := (hSw.2.2.cell (World.block_lt_of_cell? _ _ C2.out)).trans C2.out; have c3 := (hSw.2.2.cell (World.block_lt_of_cell? _ _ C3.out)).trans C3.out; have c4 := (hSw.2.2.cell (World.block_lt_of_cell? _ _ C4.out)).trans C4.out; have c5 := (hSw.2.2.cell (World.block_lt_of_cell? _ _ C5.out)).trans C5.out; have c6 := (hSw.2.2.cell (World.block_lt_of_cell? _ _ C6.out)).trans C6.out; have c7 := (hSw.2.2.cell (World.block_lt_of_cell? _ _ C7.out)).trans C7.out; have c8 := (hSw.2.2.cell (World.block_lt_of_cell? _ _ C8.out)).trans C8.out; have c9 := (hSw.2.2.cell (World.block_lt_of_cell? _ _ C9.out)).trans C9.out; have c10 := (hSw.2.2.cell (World.block_lt_of_cell? _ _ C10.out)).trans C10.out; have c11 := (hSw.2.2.cell (World.block_lt_of_cell? _ _ C11.out)).trans C11.out; go_simp; all_goals (with_reducible rfl)
        (try simp only [List.getElem_toArray, List.getElem_cons_succ, List.getElem_cons_zero, put_at, List.set])
        refine wpAnyL_take1 (i := 27) (v := (.agg #[.int .i64 x'.k, .int .i64 x'.a, .int .i64 x'.b, .int .i64 x'.c, .string x'.t, .slice ha n hc])) rfl (by kernel_rfl) (by kernel_rfl) (by kernel_rfl) (by kernel_rfl) (fun _ _ _ h => h) (by kernel_rfl) hClosed (Or.inl ⟨by rfl, ?_⟩) hHeld (fun hClosed => ?_)
        · intro wv hSw; exact exec_load_box (by rfl) (by rfl) hSw.1 Tryd.underlying24 rfl (by kernel_rfl)
        (try simp only [List.getElem_toArray, List.getElem_cons_succ, List.getElem_cons_zero, put_at, List.set])
        refine wpAnyL_one (i := 28) rfl (by kernel_rfl) (by kernel_rfl) hClosed (fun KK hK => ?_)
        go_simp
        refine (SXX.out _ hHeld.2.2).mono ?_
        rintro ee wq ⟨rfl, hwq⟩
        go_wp2_with fail
        refine hK.out _ _ ?_ (fun hClosed hHeld => ?_)
        · exact ⟨hHeld.1.later hwq, hHeld.2.1.later hwq, hHeld.2.2.trans (hwq.mono hHeld.2.2.size)⟩
        clear hK KK
        (first | simp only [List.getElem_toArray, List.getElem_cons_succ, List.getElem_cons_zero, put_at, List.set] | (try simp only [put_at, List.set]))
        refine wpAnyL_take1 (i := 29) (v := ?_) rfl (by kernel_rfl) (by kernel_rfl) (by kernel_rfl) (by kernel_rfl) (fun _ _ _ h => h) (by kernel_rfl) hClosed (Or.inl ⟨by rfl, ?_⟩) hHeld (fun hClosed => ?_)
        rotate_left
        · intro wv hSw; go_simp; all_goals (with_reducible rfl)
        (try simp only [List.getElem_toArray, List.getElem_cons_succ, List.getElem_cons_zero, put_at, List.set])
        refine wpAnyL_take1 (i := 30) (v := ?_) rfl (by kernel_rfl) (by kernel_rfl) (by kernel_rfl) (by kernel_rfl) (fun _ _ _ h => h) (by kernel_rfl) hClosed (Or.inl ⟨by rfl, ?_⟩) hHeld (fun hClosed => ?_)
        rotate_left
        · intro wv hSw; go_simp; all_goals (with_reducible rfl)
        (try simp only [List.getElem_toArray, List.getElem_cons_succ, List.getElem_cons_zero, put_at, List.set])
        refine wpAnyL_take1 (i := 31) (v := ?_) rfl (by kernel_rfl) (by kernel_rfl) (by kernel_rfl) (by kernel_rfl) (fun _ _ _ h => h) (by kernel_rfl) hClosed (Or.inl ⟨by rfl, ?_⟩) hHeld (fun hClosed => ?_)
        rotate_left
        · intro wv hSw; go_simp; all_goals (with_reducible rfl)
        (try simp only [List.getElem_toArray, List.getElem_cons_succ, List.getElem_cons_zero, put_at, List.set])
        refine wpAnyL_take1 (i := 32) (v := ?_) rfl (by kernel_rfl) (by kernel_rfl) (by kernel_rfl) (by kernel_rfl) (fun _ _ _ h => h) (by kernel_rfl) hClosed (Or.inl ⟨by rfl, ?_⟩) hHeld (fun hClosed => ?_)
        rotate_left
        · intro wv hSw; go_simp; all_goals (with_reducible rfl)
        (try simp only [List.getElem_toArray, List.getElem_cons_succ, List.getElem_cons_zero, put_at, List.set])
        refine wpAnyL_take1 (i := 33) (v := ?_) rfl (by kernel_rfl) (by kernel_rfl) (by kernel_rfl) (by kernel_rfl) (fun _ _ _ h => h) (by kernel_rfl) hClosed (Or.inl ⟨by rfl, ?_⟩) hHeld (fun hClosed => ?_)
        rotate_left
        · intro wv hSw; have c0 := (hSw.2.2.cell (World.block_lt_of_cell? _ _ C0.out)).trans C0.out; have c1 := (hSw.2.2.cell (World.block_lt_of_cell? _ _ C1.out)).trans C1.out; have c2 := (hSw.2.2.cell (World.block_lt_of_cell? _ _ C2.out)).trans C2.out; have c3 := (hSw.2.2.cell (World.block_lt_of_cell? _ _ C3.out)).trans C3.out; have c4 := (hSw.2.2.cell (World.block_lt_of_cell? _ _ C4.out)).trans C4.out; have c5 := (hSw.2.2.cell (World.block_lt_of_cell? _ _ C5.out)).trans C5.out; have c6 := (hSw.2.2.cell (World.block_lt_of_cell? _ _ C6.out)).trans C6.out; have c7 := (hSw.2.2.cell (World.block_lt_of_cell? _ _ C7.out)).trans C7.out; have c8 := (hSw.2.2.cell (World.block_lt_of_cell? _ _ C8.out)).trans C8.out; have c9 := (hSw.2.2.cell (World.block_lt_of_cell? _ _ C9.out)).trans C9.out; have c10 := (hSw.2.2.cell (World.block_lt_of_cell? _ _ C10.out)).trans C10.out; have c11 := (hSw.2.2.cell (World.block_lt_of_cell? _ _ C11.out)).trans C11.out; go_simp; all_goals (with_reducible rfl)
        (try simp only [List.getElem_toArray, List.getElem_cons_succ, List.getElem_cons_zero, put_at, List.set])
        refine wpAnyL_take1 (i := 34) (v := (.agg #[.int .i64 y'.k, .int .i64 y'.a, .int .i64 y'.b, .int .i64 y'.c, .string y'.t, .slice hb m hd])) rfl (by kernel_rfl) (by kernel_rfl) (by kernel_rfl) (by kernel_rfl) (fun _ _ _ h => h) (by kernel_rfl) hClosed (Or.inl ⟨by rfl, ?_⟩) hHeld (fun hClosed => ?_)
        · intro wv hSw; exact exec_load_box (by rfl) (by rfl) hSw.2.1 Tryd.underlying24 rfl (by kernel_rfl)
        (try simp only [List.getElem_toArray, List.getElem_cons_succ, List.getElem_cons_zero, put_at, List.set])
        refine wpAnyL_one (i := 35) rfl (by kernel_rfl) (by kernel_rfl) hClosed (fun KK hK => ?_)
        go_simp
        refine (SYY.out _ hHeld.2.2).mono ?_
        rintro ee wq ⟨rfl, hwq⟩
        go_wp2_with fail
        refine hK.out _ _ ?_ (fun hClosed hHeld => ?_)
        · exact ⟨hHeld.1.later hwq, hHeld.2.1.later hwq, hHeld.2.2.trans (hwq.mono hHeld.2.2.size)⟩
        clear hK KK
        (first | simp only [List.getElem_toArray, List.getElem_cons_succ, List.getElem_cons_zero, put_at, List.set] | (try simp only [put_at, List.set]))
        refine wpAnyL_take1 (i := 36) (v := ?_) rfl (by kernel_rfl) (by kernel_rfl) (by kernel_rfl) (by kernel_rfl) (fun _ _ _ h => h) (by kernel_rfl) hClosed (Or.inl ⟨by rfl, ?_⟩) hHeld (fun hClosed => ?_)
        rotate_left
        · intro wv hSw; go_simp; all_goals (with_reducible rfl)
        (try simp only [List.getElem_toArray, List.getElem_cons_succ, List.getElem_cons_zero, put_at, List.set])
        refine wpAnyL_last rfl (by kernel_rfl) (by kernel_rfl) (fun KK hK => ?_)
        go_simp
        refine hK.out _ _ ?_
        (try simp only [put_at, List.set])
        have BE := Lib.hid (B4.out.trans (hHeld.2.2.mono B4.out.size))
        clear hHeld
        go_wp2
        go_ret
        exact ⟨rfl, HAX.out ▸ BE.out⟩
end Go.Proofs.YtmdaggcfnkacjaaDoor
