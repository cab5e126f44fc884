/- QueueLate, walked. -/
import Derived.Test.YtbifnmlhbepadaaQuReqs
import Derived.Test.YtbifnmlhbepadaaQuOrder
import Derived.StillTailTactics
namespace Go.Proofs.Ytbifnmlhbepadaa
open Go Go.RowKit
set_option linter.unusedVariables false
set_option linter.unusedSimpArgs false
set_option maxRecDepth 10000

theorem dst_one {rs : List Rq} (h : Dst rs) : ∀ x ∈ rs, ∀ y ∈ rs, x.id = y.id → x = y := by
  induction rs with
  | nil => intro x hx; cases hx
  | cons a t ih =>
    obtain ⟨h1, h2⟩ := List.pairwise_cons.1 h
    intro x hx y hy e
    rcases List.mem_cons.1 hx with h3 | h3
    · rcases List.mem_cons.1 hy with h4 | h4
      · rw [h3, h4]
      · rw [h3] at e
        exact absurd e (h1 y h4)
    · rcases List.mem_cons.1 hy with h4 | h4
      · rw [h4] at e
        exact absurd e.symm (h1 x h3)
      · exact ih h2 x h3 y h4 e
theorem ms_step (mk i4 : Nat) (h : i4 + 1 < mk) : mk - ((i4 : Int) + 1 + 1).toNat < mk - (((i4 + 1 : Nat) : Int)).toNat := by omega
structure QlS (w wr : World) (q : Nat) (a : Option Addr) (c : Nat) (rs : List Rq) : Prop where
  qm : Qm wr w.heap.size q a c rs 100
  bel : Below w.heap.size w wr
  srt : Srt rs
  dst : Dst rs
structure QlT (w wr : World) (q : Nat) (a : Option Addr) (c : Nat) (ks : List Rq) (ag : Option Addr) (cg m : Nat) (gs : List Rq) : Prop where
  qm : Qm wr w.heap.size q a c ks 100
  bel : Below w.heap.size w wr
  og : Own wr w.heap.size 27 5 ag m cg (rqC gs)
  ap : ∀ k, ag = some ⟨k, 0, none⟩ → ¬ MineQ q a k
theorem late_len (rs : List Rq) (p : Rq → Bool) : (rs.filter p).length + (rs.filter fun x => !p x).length = rs.length := by
  induction rs with
  | nil => rfl
  | cons x t ih =>
    rw [List.filter_cons, List.filter_cons, List.length_cons]
    cases p x
    · simp; omega
    · simp; omega
set_option maxHeartbeats 8000000 in
theorem queueLate_w (a : Option Addr) (len cap : Nat) (us : List Rq) (now : Int) (w : World) (hul : us.length = len) (hcap : cap ≤ maxLen) (hlc : len ≤ cap) (hus : RdO w a us) :
    Calls Try.prog 6 #[.slice a len cap, .int .i64 now] w fun e w' => e = .returned (.bool true) ∧ Below w.heap.size w w' := by
  unfold maxLen at hcap
  have HUS := Lib.hid hus
  have HUL := Lib.hid hul
  have AW := Lib.hid (fun W => awake16 W)
  clear hus hul
  go_enter Try.func6, Try.ntmps6
  go_wp2_with fail
  refine (new_at 100 w w.heap.size (Nat.le_refl _)).mono ?_
  rintro e w1 ⟨rfl, q1, b1⟩
  obtain ⟨q, hq⟩ : ∃ q, w.heap.size = q := ⟨_, rfl⟩
  have QS0 : Hid (QlS w w1 q none 0 []) := Lib.hid ⟨by rw [hq] at q1 ⊢; exact q1, b1, List.Pairwise.nil, List.Pairwise.nil⟩
  rw [hq]
  clear q1 b1 hq
  go_wp2_with fail
  go_loopw [6, 7] (fun vm vi wr => ∃ (i m : Nat) (qa : Option Addr) (qc : Nat) (rs : List Rq), i ≤ len ∧ i ≤ 60 ∧ vm = .int .i64 (m : Int) ∧ vi = .int .i64 (i : Int) ∧ m ≤ i ∧ Hid (rs.length = m) ∧ Hid (QlS w wr q qa qc rs)) (fun _ vi _ => 60 - (intOf vi).toNat)
  case atStart => exact ⟨0, 0, none, 0, [], by omega, by omega, rfl, rfl, by omega, Lib.hid rfl, QS0⟩
  case round =>
    obtain ⟨i, m, qa, qc, rs, hi, hi6, rfl, rfl, hmi, HM, HS⟩ := hrel
    clear QS0
    obtain ⟨wo, rfl⟩ : ∃ W, W = wr := ⟨_, rfl⟩
    obtain ⟨cb, hcb⟩ : ∃ cb, decide (i < len ∧ i < 60) = cb := ⟨_, rfl⟩
    have HCB := Lib.hid hcb
    clear hcb
    go_upto_region 4 with fail
    go_cut [20] (fun v wx => v = .bool cb ∧ wx = wo)
    case first =>
      by_cases h1 : i < len
      · have d1 : decide ((i : Int) < (len : Int)) = true := decide_eq_true (by omega)
        by_cases h2 : i < 60
        · have d2 : decide ((i : Int) < 60) = true := decide_eq_true (by omega)
          have hcc : cb = true := by rw [← HCB.out]; exact decide_eq_true ⟨h1, h2⟩
          subst hcc
          go_wp2
          go_meet
          exact ⟨rfl, rfl⟩
        · have d2 : decide ((i : Int) < 60) = false := decide_eq_false (by omega)
          have hcc : cb = false := by rw [← HCB.out]; exact decide_eq_false (fun h => h2 h.2)
          subst hcc
          go_wp2
          go_meet
          exact ⟨rfl, rfl⟩
      · have d1 : decide ((i : Int) < (len : Int)) = false := decide_eq_false (by omega)
        have hcc : cb = false := by rw [← HCB.out]; exact decide_eq_false (fun h => h1 h.1)
        subst hcc
        go_wp2
        go_meet
        exact ⟨rfl, rfl⟩
    case rest =>
      obtain ⟨rfl, rfl⟩ := hcut
      cases cb with
      | true =>
        obtain ⟨h1, h2⟩ := of_decide_eq_true HCB.out
        obtain ⟨x, hx⟩ : ∃ x, us[i]? = some x := ⟨_, List.getElem?_eq_getElem (by rw [HUL.out]; exact h1)⟩
        obtain ⟨bb, off, ha, hc⟩ := HUS.out
        have ha := ha (by intro e; rw [e] at hx; simp at hx)
        subst ha
        obtain ⟨u0, u1, u2, u3, u4⟩ := hc i x hx
        have k : ∀ {p : Addr} {u : Value}, w.cell? p = some u → wc.cell? p = some u := fun hp => (HS.out.bel.cell (World.block_lt_of_cell? _ _ hp)).trans hp
        have m0 := k u0
        have m1 := k u1
        have m2 := k u2
        have m3 := k u3
        have m4 := k u4
        have hx0 : (0 : Int) ≤ (i : Int) := by omega
        have hx1 : (i : Int) < (len : Int) := by omega
        have PU := Lib.hid (push_at HS.out.qm HS.out.srt m HM.out (by omega) HS.out.bel.size x)
        have NX : Hid (∀ a' c' w', rs.any (idB x.id) = false → Qm w' w.heap.size q a' c' (insQ rs x) 100 → TurnQ q qa wc a' w' → QlS w w' q a' c' (insQ rs x)) := Lib.hid (fun a' c' w' h0 h1 h2 => by
          have hid : ∀ y ∈ rs, y.id ≠ x.id := fun y hy e => by
            rw [List.any_eq_false] at h0
            exact h0 y hy (decide_eq_true e)
          exact ⟨h1, HS.out.bel.trans (HS.out.qm.turn h2 HS.out.bel.size), srt_ins HS.out.srt hid, dst_ins HS.out.dst hid⟩)
        have NL : Hid (∀ w', Below wc.heap.size wc w' → QlS w w' q qa qc rs) := Lib.hid (fun w' hb => ⟨HS.out.qm.later hb, HS.out.bel.trans (hb.mono HS.out.bel.size), HS.out.srt, HS.out.dst⟩)
        unfold rqA at PU
        obtain ⟨xi, xh, xp, xr, xt⟩ := x
        dsimp only at m0 m1 m2 m3 m4 PU
        clear u0 u1 u2 u3 u4 hc hx k HS
        go_wp2_with fail
        refine PU.out.mono ?_
        rintro e w2 (⟨_, rfl, b2⟩ | ⟨_, _, rfl, b2⟩ | ⟨hno, _, rfl, a2, c2, q2, t2⟩)
        · have QN := Lib.hid (NL.out _ b2)
          clear b2 PU NX NL m0 m1 m2 m3 m4
          go_wp2
          go_roundw
          case rel => exact ⟨i + 1, m, qa, qc, rs, by omega, by omega, rfl, by go_num, by omega, HM, QN⟩
          case measure =>
            simp only [intOf]
            omega
        · have QN := Lib.hid (NL.out _ b2)
          clear b2 PU NX NL m0 m1 m2 m3 m4
          go_wp2
          go_roundw
          case rel => exact ⟨i + 1, m, qa, qc, rs, by omega, by omega, rfl, by go_num, by omega, HM, QN⟩
          case measure =>
            simp only [intOf]
            omega
        · have QN := Lib.hid (NX.out _ _ _ hno q2 t2)
          clear hno q2 t2 PU NX NL m0 m1 m2 m3 m4
          go_wp2
          go_roundw
          case rel => exact ⟨i + 1, m + 1, a2, c2, _, by omega, by omega, by go_num, by go_num, by omega, Lib.hid (by rw [insQ_len, HM.out]), QN⟩
          case measure =>
            simp only [intOf]
            omega
      | false =>
        clear HCB HUS HUL
        have LT := Lib.hid (late_at HS.out.qm m HM.out (by omega) HS.out.bel.size now)
        obtain ⟨gs, hgs⟩ : ∃ gs, rs.filter (lateB now) = gs := ⟨_, rfl⟩
        obtain ⟨ks, hks⟩ : ∃ ks, (rs.filter fun x => !lateB now x) = ks := ⟨_, rfl⟩
        have SUM : Hid (gs.length + ks.length = m) := Lib.hid (by rw [← hgs, ← hks, late_len]; exact HM.out)
        have KL : Hid (∀ y ∈ ks, lateB now y = false) := Lib.hid (fun y hy => by
          rw [← hks] at hy
          simpa using (List.mem_filter.1 hy).2)
        have GL : Hid (∀ y ∈ gs, lateB now y = true ∧ ks.any (idB y.id) = false) := Lib.hid (fun y hy => by
          rw [← hgs] at hy
          obtain ⟨h1, h2⟩ := List.mem_filter.1 hy
          refine ⟨h2, ?_⟩
          rw [List.any_eq_false]
          intro z hz hid
          rw [← hks] at hz
          obtain ⟨h3, h4⟩ := List.mem_filter.1 hz
          have e := dst_one HS.out.dst z h3 y h1 (of_decide_eq_true hid)
          rw [e, h2] at h4
          cases h4)
        have KS : Hid (Srt ks) := Lib.hid (by rw [← hks]; exact srt_filter HS.out.srt _)
        obtain ⟨mg, hmg⟩ : ∃ mg, gs.length = mg := ⟨_, rfl⟩
        obtain ⟨mk, hmk⟩ : ∃ mk, ks.length = mk := ⟨_, rfl⟩
        have LT2 : Hid (Calls Try.prog 16 #[.pointer (some ⟨q, 0, none⟩), .int .i64 now] wc fun e w' => ∃ ag cg, e = .returned (.slice ag mg cg) ∧ ∃ a' c', QlT w w' q a' c' ks ag cg mg gs) := Lib.hid (LT.out.mono (fun e w' ⟨a', c', ag, cg, he, h1, h2, h3, h4⟩ => by
          rw [hgs] at he h3
          rw [hks] at h1
          rw [hmg] at he h3
          refine ⟨ag, cg, he, a', c', h1, HS.out.bel.trans (HS.out.qm.turn h2 HS.out.bel.size), h3.mono HS.out.bel.size, fun k hk hm => ?_⟩
          rcases hm with hm | hm
          · have hb := h1.box
            rw [← hm] at hb
            rw [hk] at h3
            exact own_not_box5 h3 hb (by decide) rfl
          · exact h4 k hm hk))
        have hsum : mg + mk = m := by have := SUM.out; omega
        have HMG := Lib.hid hmg
        have HMK := Lib.hid hmk
        clear LT hgs hks hmg hmk HS SUM HM
        go_wp2_with fail
        refine LT2.out.mono ?_
        rintro e w2 ⟨ag, cg, rfl, a2, c2, qt2⟩
        have QT2 := Lib.hid qt2
        clear qt2 LT2
        go_wp2_with fail
        go_loopw [9] (fun vi wr => ∃ (i2 : Nat) (qa : Option Addr) (qc : Nat), i2 ≤ mg ∧ vi = .int .i64 (i2 : Int) ∧ Hid (QlT w wr q qa qc ks ag cg mg gs)) (fun vi _ => mg - (intOf vi).toNat)
        case atStart => exact ⟨0, a2, c2, by omega, rfl, QT2⟩
        case round =>
          obtain ⟨i2, qa2, qc2, hi2, rfl, HT⟩ := hrel
          clear QT2
          obtain ⟨wa, rfl⟩ : ∃ W, W = wr := ⟨_, rfl⟩
          by_cases hlt : i2 < mg
          · have hkd : decide ((i2 : Int) < (mg : Int)) = true := decide_eq_true (by omega)
            obtain ⟨x, hx⟩ : ∃ x, gs[i2]? = some x := ⟨_, List.getElem?_eq_getElem (by rw [HMG.out]; exact hlt)⟩
            obtain ⟨gb, rfl, cl⟩ := HT.out.og.rdQ i2 x hx
            have m0 := cl.c0
            have m4 := cl.c4
            obtain ⟨hl1, hl2⟩ := GL.out x (List.mem_of_getElem? hx)
            unfold lateB at hl1
            rw [Bool.and_eq_true, decide_eq_true_eq, decide_eq_true_eq] at hl1
            have DR := Lib.hid (drop_at HT.out.qm mk HMK.out (by omega) HT.out.bel.size x.id)
            have FL : Hid ((ks.filter fun y => !idB x.id y) = ks) := Lib.hid (by
              rw [List.filter_eq_self]
              intro y hy
              rw [List.any_eq_false] at hl2
              have := hl2 y hy
              simpa using this)
            rw [hl2] at DR
            obtain ⟨xi, xh, xp, xr, xt⟩ := x
            dsimp only at m0 m4 hl1 DR FL
            obtain ⟨p1, p2⟩ := hl1
            have d1 : decide (xt ≤ 0) = false := decide_eq_false (by omega)
            have p3 : ¬ xt ≤ 0 := by omega
            have d2 : decide (now ≤ xt) = false := decide_eq_false (by omega)
            have p4 : ¬ now ≤ xt := by omega
            have hx0 : (0 : Int) ≤ (i2 : Int) := by omega
            have hx1 : (i2 : Int) < (mg : Int) := by omega
            have NX : Hid (∀ a' c' w', Qm w' w.heap.size q a' c' (ks.filter fun y => !idB xi y) 100 → TurnQ q qa2 wa a' w' → QlT w w' q a' c' ks (some ⟨gb, 0, none⟩) cg mg gs) := Lib.hid (fun a' c' w' h1 h2 => by
              rw [FL.out] at h1
              refine ⟨h1, HT.out.bel.trans (HT.out.qm.turn h2 HT.out.bel.size), HT.out.og.only h2.1 (fun g hg => HT.out.ap g hg), fun k hk hm => ?_⟩
              rcases hm with hm | hm
              · exact HT.out.ap k hk (Or.inl hm)
              · rcases h2.2 k hm with h3 | h3
                · exact HT.out.ap k hk (Or.inr h3)
                · have := (own_lt HT.out.og hk).1
                  omega)
            clear cl hx hl2 FL HT p1 p2
            go_wp2_with fail
            refine DR.out.mono ?_
            rintro e w3 ⟨rfl, a3, c3, q3, t3⟩
            have QN := Lib.hid (NX.out _ _ _ q3 t3)
            clear q3 t3 NX DR m0 m4
            go_wp2
            go_roundw
            case rel => exact ⟨i2 + 1, a3, c3, by omega, by go_num, QN⟩
            case measure =>
              simp only [intOf]
              omega
          · have hkd : decide ((i2 : Int) < (mg : Int)) = false := decide_eq_false (by omega)
            have AL := Lib.hid (all_at HT.out.qm mk HMK.out (by omega))
            have QT3 := Lib.hid HT.out.qm
            have HNQ : Hid (∀ k, MineQ q qa2 k → k < wa.heap.size) := Lib.hid (fun k hk => by
              rcases hk with hk | hk
              · rw [hk]; exact HT.out.qm.box.lt
              · exact (own_lt HT.out.qm.own hk).1)
            have BT3 := Lib.hid HT.out.bel
            clear HT GL
            go_wp2_with fail
            refine AL.out.mono ?_
            rintro e w3 ⟨a4, c4, rfl, o4, b4⟩
            have O4 := Lib.hid o4.rdQ
            have HO4 := Lib.hid o4
            have Q4 := Lib.hid (QT3.out.later b4)
            have B4 := Lib.hid (BT3.out.trans (b4.mono BT3.out.size))
            clear o4 b4 AL QT3 BT3
            go_wp2_with fail
            go_loopw [11] (fun vi wr => ∃ i3 : Nat, i3 ≤ mk ∧ vi = .int .i64 (i3 : Int) ∧ Hid (Below w3.heap.size w3 wr)) (fun vi _ => mk - (intOf vi).toNat)
            case atStart => exact ⟨0, by omega, rfl, Lib.hid (Below.refl _ _)⟩
            case round =>
              obtain ⟨i3, hi3, rfl, BR⟩ := hrel
              obtain ⟨wb, rfl⟩ : ∃ W, W = wr := ⟨_, rfl⟩
              by_cases hlt3 : i3 < mk
              · have hkd3 : decide ((i3 : Int) < (mk : Int)) = true := decide_eq_true (by omega)
                obtain ⟨x, hx⟩ : ∃ x, ks[i3]? = some x := ⟨_, List.getElem?_eq_getElem (by rw [HMK.out]; exact hlt3)⟩
                obtain ⟨gb, rfl, cl⟩ := (O4.out.later BR.out) i3 x hx
                have m0 := cl.c0
                have m1 := cl.c1
                have m2 := cl.c2
                have m3 := cl.c3
                have m4 := cl.c4
                have hl := KL.out x (List.mem_of_getElem? hx)
                have hx0 : (0 : Int) ≤ (i3 : Int) := by omega
                have hx1 : (i3 : Int) < (mk : Int) := by omega
                unfold lateB at hl
                obtain ⟨xi, xh, xp, xr, xt⟩ := x
                dsimp only at m0 m1 m2 m3 m4 hl
                go_upto_region 18 with fail
                go_cut [104] (fun v wx => v = .bool false ∧ Hid (Below w3.heap.size w3 wx))
                case first =>
                  by_cases h1 : 0 < xt
                  · have d1 : decide (0 < xt) = true := decide_eq_true h1
                    have h2 : ¬ xt < now := by
                      intro h
                      rw [d1, decide_eq_true h] at hl
                      cases hl
                    have d2 : decide (xt < now) = false := decide_eq_false h2
                    clear hl
                    by_cases h0 : i3 = 0
                    · have e0 : decide ((0 : Int) < (i3 : Int)) = false := decide_eq_false (by omega)
                      have p0 : ¬ (0 : Int) < (i3 : Int) := by omega
                      have e0n : decide (0 < i3) = false := decide_eq_false (by omega)
                      have p0n : ¬ 0 < i3 := by omega
                      clear h0
                      go_quiet (fail)
                      go_wp2
                      go_meet
                      exact ⟨rfl, Lib.hid (bin_drewN BR.out nq)⟩
                    · obtain ⟨i4, rfl⟩ : ∃ i4, i3 = i4 + 1 := ⟨i3 - 1, by omega⟩
                      have e0 : decide ((0 : Int) < ((i4 + 1 : Nat) : Int)) = true := decide_eq_true (by omega)
                      have e0a : decide (0 < i4 + 1) = true := decide_eq_true (by omega)
                      have e0b : decide ((0 : Int) < (i4 : Int) + 1) = true := decide_eq_true (by omega)
                      have e0c : (0 : Int) < (i4 : Int) + 1 := by omega
                      have hx0b : (0 : Int) ≤ (i4 : Int) + 1 := by omega
                      have hx1b : (i4 : Int) + 1 < (mk : Int) := by omega
                      have hx1c : i4 + 1 < mk := by omega
                      have htn : ((i4 : Int) + 1).toNat = i4 + 1 := by omega
                      have hwm : IntKind.i64.wrap ((i4 : Int) + 1 - 1) = (i4 : Int) := by rw [IntKind.wrap_i64]; omega
                      have hwm2 : IntKind.i64.wrap (i4 : Int) = (i4 : Int) := by rw [IntKind.wrap_i64]; omega
                      obtain ⟨y, hy⟩ : ∃ y, ks[i4]? = some y := ⟨_, List.getElem?_eq_getElem (by rw [HMK.out]; omega)⟩
                      obtain ⟨gb2, hgb2, cy⟩ := (O4.out.later BR.out) i4 y hy
                      injection hgb2 with hgb2
                      injection hgb2 with hgb2
                      subst hgb2
                      have n0 := cy.c0
                      have n1 := cy.c1
                      have n2 := cy.c2
                      have n3 := cy.c3
                      have n4 := cy.c4
                      have hbf : Bef y ⟨xi, xh, xp, xr, xt⟩ := srt_get KS.out (by omega) hy hx
                      have BF := Lib.hid (fun W => before_at y ⟨xi, xh, xp, xr, xt⟩ W)
                      rw [show befB y ⟨xi, xh, xp, xr, xt⟩ = true from decide_eq_true hbf] at BF
                      unfold rqA at BF
                      obtain ⟨yi, yh, yp, yr, yt⟩ := y
                      dsimp only at n0 n1 n2 n3 n4 BF
                      have hy0 : (0 : Int) ≤ (i4 : Int) := by omega
                      have hy1 : (i4 : Int) < (mk : Int) := by omega
                      clear cy hy hx hbf cl h0
                      go_still_tail 28, (by kernel_rfl)
                      change wpList _ _ _ _ _ wb.drew
                      have BR9 : Hid (Below w3.heap.size w3 wb.drew) := Lib.hid BR.out.drew
                      generalize wb.drew = w9 at BR9 ⊢
                      go_wp2_with fail
                      refine (BF.out _).mono ?_
                      rintro e w10 ⟨rfl, b10⟩
                      have BR10 := Lib.hid (BR9.out.trans (b10.mono BR9.out.size))
                      clear b10 BR9 BF n0 n1 n2 n3 n4 m0 m1 m2 m3 m4
                      go_wp2
                      go_meet
                      exact ⟨rfl, BR10⟩
                  · have d1 : decide (0 < xt) = false := decide_eq_false h1
                    clear hl
                    by_cases h0 : i3 = 0
                    · have e0 : decide ((0 : Int) < (i3 : Int)) = false := decide_eq_false (by omega)
                      have p0 : ¬ (0 : Int) < (i3 : Int) := by omega
                      have e0n : decide (0 < i3) = false := decide_eq_false (by omega)
                      have p0n : ¬ 0 < i3 := by omega
                      clear h0
                      go_quiet (fail)
                      go_wp2
                      go_meet
                      exact ⟨rfl, Lib.hid (bin_drewN BR.out nq)⟩
                    · obtain ⟨i4, rfl⟩ : ∃ i4, i3 = i4 + 1 := ⟨i3 - 1, by omega⟩
                      have e0 : decide ((0 : Int) < ((i4 + 1 : Nat) : Int)) = true := decide_eq_true (by omega)
                      have e0a : decide (0 < i4 + 1) = true := decide_eq_true (by omega)
                      have e0b : decide ((0 : Int) < (i4 : Int) + 1) = true := decide_eq_true (by omega)
                      have e0c : (0 : Int) < (i4 : Int) + 1 := by omega
                      have hx0b : (0 : Int) ≤ (i4 : Int) + 1 := by omega
                      have hx1b : (i4 : Int) + 1 < (mk : Int) := by omega
                      have hx1c : i4 + 1 < mk := by omega
                      have htn : ((i4 : Int) + 1).toNat = i4 + 1 := by omega
                      have hwm : IntKind.i64.wrap ((i4 : Int) + 1 - 1) = (i4 : Int) := by rw [IntKind.wrap_i64]; omega
                      have hwm2 : IntKind.i64.wrap (i4 : Int) = (i4 : Int) := by rw [IntKind.wrap_i64]; omega
                      obtain ⟨y, hy⟩ : ∃ y, ks[i4]? = some y := ⟨_, List.getElem?_eq_getElem (by rw [HMK.out]; omega)⟩
                      obtain ⟨gb2, hgb2, cy⟩ := (O4.out.later BR.out) i4 y hy
                      injection hgb2 with hgb2
                      injection hgb2 with hgb2
                      subst hgb2
                      have n0 := cy.c0
                      have n1 := cy.c1
                      have n2 := cy.c2
                      have n3 := cy.c3
                      have n4 := cy.c4
                      have hbf : Bef y ⟨xi, xh, xp, xr, xt⟩ := srt_get KS.out (by omega) hy hx
                      have BF := Lib.hid (fun W => before_at y ⟨xi, xh, xp, xr, xt⟩ W)
                      rw [show befB y ⟨xi, xh, xp, xr, xt⟩ = true from decide_eq_true hbf] at BF
                      unfold rqA at BF
                      obtain ⟨yi, yh, yp, yr, yt⟩ := y
                      dsimp only at n0 n1 n2 n3 n4 BF
                      have hy0 : (0 : Int) ≤ (i4 : Int) := by omega
                      have hy1 : (i4 : Int) < (mk : Int) := by omega
                      clear cy hy hx hbf cl h0
                      refine wp_region_still_tail 28 (by kernel_rfl) (by kernel_rfl) ?_
                      simp only [List.take_succ_cons, List.take_zero, List.drop_succ_cons, List.drop_zero]
                      iterate 28 (generalize hg : Act.mk _ _ = g9; refine wpStill_step (fun K hK => ?_); subst hg; go_simp; generalize hg : Act.mk _ _ = g9; refine hK _ ?_; clear hK K; subst hg)
                      generalize hg : Act.mk _ _ = g9
                      refine wpStill_nil ?_
                      subst hg
                      change wpList _ _ _ _ _ wb.drew
                      have BR9 : Hid (Below w3.heap.size w3 wb.drew) := Lib.hid BR.out.drew
                      generalize wb.drew = w9 at BR9 ⊢
                      go_wp2_with fail
                      refine (BF.out _).mono ?_
                      rintro e w10 ⟨rfl, b10⟩
                      have BR10 := Lib.hid (BR9.out.trans (b10.mono BR9.out.size))
                      clear b10 BR9 BF n0 n1 n2 n3 n4 m0 m1 m2 m3 m4
                      go_wp2
                      go_meet
                      exact ⟨rfl, BR10⟩
                case rest =>
                  obtain ⟨rfl, BR2⟩ := hcut
                  clear m0 m1 m2 m3 m4 BR hl cl hx
                  go_wp2
                  go_roundw
                  case rel => exact ⟨i3 + 1, by omega, by go_num, BR2⟩
                  case measure =>
                    simp only [intOf]
                    omega
              · have hkd3 : decide ((i3 : Int) < (mk : Int)) = false := decide_eq_false (by omega)
                have BW5 := Lib.hid (B4.out.trans (BR.out.mono B4.out.size))
                have Q5 := Lib.hid (Q4.out.later BR.out)
                have BR3 := BR
                have EMP : Hid (ks.filter (lateB now) = []) := Lib.hid (by
                  rw [List.filter_eq_nil_iff]
                  intro y hy
                  rw [KL.out y hy]
                  simp)
                have ALLK : Hid ((ks.filter fun x => !lateB now x) = ks) := Lib.hid (by
                  rw [List.filter_eq_self]
                  intro y hy
                  rw [KL.out y hy]
                  rfl)
                have hsum2 : ((mg : Int) + (mk : Int) == (m : Int)) = true := by simp; omega
                clear BR B4 Q4 O4 KL
                go_wp2_with fail
                refine (AW.out _).mono ?_
                rintro e w6 ⟨rfl, b6⟩
                have B6 := Lib.hid (BW5.out.trans (b6.mono BW5.out.size))
                have Q6 := Lib.hid (Q5.out.later b6)
                have O6 : Hid (Own w6 wa.heap.size 27 5 a4 mk c4 (rqC ks)) := Lib.hid ((HO4.out.later BR3.out).later b6)
                have LT6 : Hid (Calls Try.prog 16 #[.pointer (some ⟨q, 0, none⟩), .int .i64 now] w6 fun e w' => ∃ ag cg a' c', e = .returned (.slice ag 0 cg) ∧ Qm w' w.heap.size q a' c' ks 100 ∧ TurnQ q qa2 w6 a' w') := Lib.hid ((late_at Q6.out mk HMK.out (by omega) B6.out.size now).mono (fun e w' ⟨a', c', ag, cg, he, h1, h2, h3, h4⟩ => by
                  rw [EMP.out] at he
                  rw [ALLK.out] at h1
                  exact ⟨ag, cg, a', c', he, h1, h2⟩))
                clear b6 AW Q5 BW5
                go_wp2_with fail
                refine LT6.out.mono ?_
                rintro e w7 ⟨ag6, cg6, a7, c7, rfl, q7, t7⟩
                have O7 := Lib.hid (O6.out.only t7.1 (fun g hg hm => by
                  have h1 := HNQ.out g hm
                  have h2 := (own_lt O6.out hg).2
                  omega))
                have B7 := Lib.hid (B6.out.trans (Q6.out.turn t7 B6.out.size))
                have AL7 := Lib.hid (all_at q7 mk HMK.out (by omega))
                clear q7 t7 LT6 O6 Q6 B6 HO4 BR3
                go_wp2_with fail
                refine AL7.out.mono ?_
                rintro e w8 ⟨a8, c8, rfl, o8, b8⟩
                have RQ := Lib.hid (reqs_at ks mk HMK.out (by omega) a8 a4 c8 c4 w8 o8.rdQ (O7.out.later b8).rdQ)
                have B8 := Lib.hid (B7.out.trans (b8.mono B7.out.size))
                clear o8 b8 O7 B7 AL7
                go_wp2_with fail
                refine RQ.out.mono ?_
                rintro e w9 ⟨rfl, b9⟩
                have B9 := Lib.hid (B8.out.trans (b9.mono B8.out.size))
                clear b9 RQ B8
                go_wp2
                go_ret
                exact ⟨rfl, B9.out⟩
theorem queueLate_walk (x : Option Addr × Nat × Nat) (now : Int) (w : World) (hx : IsReqs w x) (wn : (Lit.int .i64 now).wf = true) :
    Calls Try.prog 6 #[.slice x.1 x.2.1 x.2.2, .int .i64 now] w fun e w' => e = .returned (.bool true) ∧ Below w.heap.size w w' := by
  obtain ⟨us, h1, h2, h3, h4⟩ := hx
  exact queueLate_w x.1 x.2.1 x.2.2 us now w h1 h2 h3 h4
end Go.Proofs.Ytbifnmlhbepadaa
