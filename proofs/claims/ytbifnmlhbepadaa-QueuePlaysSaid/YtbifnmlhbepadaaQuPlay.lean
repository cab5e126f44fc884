/- QueuePlays, walked. -/
import Derived.Test.YtbifnmlhbepadaaQuRow
import Derived.Test.YtbifnmlhbepadaaQuActs
import Derived.Test.YtbifnmlhbepadaaQuRem
import Derived.StillTailTactics
namespace Go.Proofs.Ytbifnmlhbepadaa
open Go Go.RowKit
set_option linter.unusedVariables false
set_option linter.unusedSimpArgs false
set_option maxRecDepth 10000

/-- A queue and the document's list of it. -/
structure QpS (w wr : World) (q : Nat) (most : Int) (qa : Option Addr) (qc : Nat) (rs : List Rq) (n : Nat) (ra : Option Addr) (rc : Nat) : Prop where
  qm : Qm wr w.heap.size q qa qc rs most
  bel : Below w.heap.size w wr
  srt : Srt rs
  dst : Dst rs
  len : rs.length = n
  ro : Own wr w.heap.size 27 5 ra n rc (rqC rs)
  ap : ∀ k, ra = some ⟨k, 0, none⟩ → ¬ MineQ q qa k
theorem QpS.later {w wr w' : World} {q n qc rc : Nat} {most : Int} {qa ra : Option Addr} {rs : List Rq} (h : QpS w wr q most qa qc rs n ra rc) (hb : Below wr.heap.size wr w') : QpS w w' q most qa qc rs n ra rc :=
  ⟨h.qm.later hb, h.bel.trans (hb.mono h.bel.size), h.srt, h.dst, h.len, h.ro.later hb, h.ap⟩
/-- The queue has moved on; the document's row is as it was. -/
theorem QpS.row {w wr w' : World} {q n qc rc : Nat} {most : Int} {qa ra : Option Addr} {rs : List Rq} (h : QpS w wr q most qa qc rs n ra rc) {a' : Option Addr} (ht : TurnQ q qa wr a' w') :
    Own w' w.heap.size 27 5 ra n rc (rqC rs) ∧ Below w.heap.size w w' :=
  ⟨h.ro.only ht.1 (fun g hg => h.ap g hg), h.bel.trans (h.qm.turn ht h.bel.size)⟩
/-- A new row beside a queue. -/
theorem QpS.new {w w2 w3 : World} {q n qc rc : Nat} {most : Int} {qa ra : Option Addr} {rs : List Rq} (hq : Qm w2 w.heap.size q qa qc rs most) (hb : Below w.heap.size w w2) (hs : Srt rs) (hd : Dst rs) (hl : rs.length = n)
    (ho : Own w3 w2.heap.size 27 5 ra n rc (rqC rs)) (hw : Below w2.heap.size w2 w3) : QpS w w3 q most qa qc rs n ra rc :=
  ⟨hq.later hw, hb.trans (hw.mono hb.size), hs, hd, hl, ho.mono hb.size, fun k hk hm => by
    have h1 := (own_lt ho hk).2
    rcases hm with hm | hm
    · have := hq.box.lt
      omega
    · have := (own_lt hq.own hm).1
      omega⟩
/-- The queue has moved on to what the document's row holds already. -/
theorem QpS.same {w wr w' : World} {q n qc rc m : Nat} {most : Int} {qa ra : Option Addr} {rs ks : List Rq} (h : QpS w wr q most qa qc rs n ra rc) {a' : Option Addr} {c' : Nat} (hq : Qm w' w.heap.size q a' c' ks most) (ht : TurnQ q qa wr a' w') (hk : ks = rs) : QpS w w' q most a' c' rs n ra rc := by
  subst hk
  obtain ⟨h1, h2⟩ := h.row ht
  refine ⟨hq, h2, h.srt, h.dst, h.len, h1, fun k hk hm => ?_⟩
  rcases hm with hm | hm
  · exact h.ap k hk (Or.inl hm)
  · rcases ht.2 k hm with h3 | h3
    · exact h.ap k hk (Or.inr h3)
    · have := (own_lt h.ro hk).1
      omega
theorem dst_filter {rs : List Rq} (h : Dst rs) (p : Rq → Bool) : Dst (rs.filter p) := List.Pairwise.filter p h
theorem dst_new {rs : List Rq} {r : Rq} (h : rs.any (idB r.id) = false) : ∀ y ∈ rs, y.id ≠ r.id := fun y hy e => by
  rw [List.any_eq_false] at h
  exact h y hy (decide_eq_true e)
theorem any_none {rs : List Rq} {id : Int} (h : rs.any (idB id) = false) : (rs.filter fun y => !idB id y) = rs := by
  rw [List.filter_eq_self]
  intro y hy
  rw [List.any_eq_false] at h
  have := h y hy
  simpa using this
theorem box_other {w : World} {b g : Nat} {cs ds : Array Value} {t u : TypeId} (h : Box w b cs t) (k : Box w g ds u) (hne : t ≠ u) : b ≠ g := fun e => by
  subst e
  have h1 : w.heap[b]? = some (.cells cs t (0, 0)) := h
  have h2 : w.heap[b]? = some (.cells ds u (0, 0)) := k
  rw [h1] at h2
  injection h2 with h2
  injection h2 with _ h2 _
  exact hne h2
theorem ms_plays (mk i4 : Nat) (h : i4 < mk) : mk - ((i4 : Int) + 1).toNat < mk - ((i4 : Int)).toNat := by omega
set_option maxHeartbeats 20000000 in
theorem queuePlays_w (most : Int) (a : Option Addr) (len cap b off : Nat) (w : World) (hlen : len ≤ maxLen) (ha : 0 < len → a = some ⟨b, off, none⟩) (hacts : ∀ i, i < len → ∃ e : Ac, A7 w b (off + i * 7) e) :
    Calls Try.prog 3 #[.int .i64 most, .slice a len cap] w fun e w' => e = .returned (.bool true) ∧ Below w.heap.size w w' := by
  unfold maxLen at hlen
  have HA := Lib.hid ha
  have HAC := Lib.hid hacts
  have AW := Lib.hid (fun W => awake16 W)
  clear ha hacts
  go_enter Try.func3, Try.ntmps3
  go_wp2_with fail
  refine (new_at most w w.heap.size (Nat.le_refl _)).mono ?_
  rintro e w1 ⟨rfl, q1, b1⟩
  obtain ⟨q, hq⟩ : ∃ q, w.heap.size = q := ⟨_, rfl⟩
  have Q1 : Hid (Qm w1 w.heap.size q none 0 [] most) := Lib.hid (by rw [hq] at q1 ⊢; exact q1)
  have B1 := Lib.hid b1
  rw [hq]
  clear q1 b1 hq
  go_upto_region 2 with fail
  have OL := Lib.hid (Own.lit (w := w1) (B := w1.heap.size) (n := 0) (size := 5) (cs := #[]) (E := 27) (Nat.le_refl _) (by omega) rfl)
  have WL := Lib.hid ((Below.refl w1.heap.size w1).alloc (Nat.le_refl _) (.cells #[] 27))
  have QS0 : Hid (QpS w (w1.alloc (.cells #[] 27)) q most none 0 [] 0 (some ⟨w1.heap.size, 0, none⟩) 0) := Lib.hid (QpS.new Q1.out B1.out List.Pairwise.nil List.Pairwise.nil rfl OL.out WL.out)
  clear Q1 B1 OL WL
  go_wp2_with fail
  go_loopw [6, 7] (fun vl vi wr => ∃ (i n : Nat) (qa : Option Addr) (qc : Nat) (rs : List Rq) (ra : Option Addr) (rc : Nat), i ≤ len ∧ i ≤ 80 ∧ n ≤ i ∧ vl = .slice ra n rc ∧ vi = .int .i64 (i : Int) ∧ Hid (QpS w wr q most qa qc rs n ra rc)) (fun _ vi _ => 80 - (intOf vi).toNat)
  case atStart => exact ⟨0, 0, none, 0, [], _, 0, by omega, by omega, by omega, rfl, rfl, QS0⟩
  case round =>
    obtain ⟨i, n, qa, qc, rs, ra, rc, hi, hi8, hni, rfl, rfl, HS⟩ := hrel
    clear QS0
    obtain ⟨wo, rfl⟩ : ∃ W, W = wr := ⟨_, rfl⟩
    by_cases hgo : i < len ∧ i < 80
    · obtain ⟨h1, h2⟩ := hgo
      have d1 : decide ((i : Int) < (len : Int)) = true := decide_eq_true (by omega)
      have d2 : decide ((i : Int) < 80) = true := decide_eq_true (by omega)
      obtain ⟨x, hx⟩ := HAC.out i h1
      have haa := HA.out (by omega)
      subst haa
      have hx2 := hx.later HS.out.bel
      clear hx
      have m0 := hx2.c0
      have m1 := hx2.c1
      have m2 := hx2.c2
      have m3 := hx2.c3
      have m4 := hx2.c4
      have m5 := hx2.c5
      have m6 := hx2.c6
      clear hx2
      obtain ⟨xw, xn, xi, xh, xp, xr, xt⟩ := x
      dsimp only at m0 m1 m2 m3 m4 m5 m6
      have hx0 : (0 : Int) ≤ (i : Int) := by omega
      have hx1 : (i : Int) < (len : Int) := by omega
      have BNA := Lib.hid (Box.new wo #[.int .i64 xw, .int .i64 xn, .int .i64 xi, .string xh, .string xp, .int .i64 xr, .int .i64 xt] 29)
      have WNA := Lib.hid ((Below.refl wo.heap.size wo).alloc (Nat.le_refl _) (.cells #[.int .i64 xw, .int .i64 xn, .int .i64 xi, .string xh, .string xp, .int .i64 xr, .int .i64 xt] 29))
      go_upto_region 7 with fail
      obtain ⟨wa, hwa⟩ : ∃ W, wo.alloc (.cells #[.int .i64 xw, .int .i64 xn, .int .i64 xi, .string xh, .string xp, .int .i64 xr, .int .i64 xt] 29) = W := ⟨_, rfl⟩
      obtain ⟨ab, hab⟩ : ∃ B, wo.heap.size = B := ⟨_, rfl⟩
      rw [hwa] at BNA WNA
      rw [hab] at BNA
      rw [hwa, hab]
      have HS1 := Lib.hid (HS.out.later WNA.out)
      clear HS WNA hwa m0 m1 m2 m3 m4 m5 m6
      have a0 := BNA.out.cell 0
      have a2 := BNA.out.cell 2
      have la := BNA.out.lt
      obtain ⟨has, hhas⟩ : ∃ b, rs.any (idB xi) = b := ⟨_, rfl⟩
      have AT := Lib.hid (at_at rs n HS1.out.len (by omega) ra rc xi wa (HS1.out.ro.rdQ))
      obtain ⟨v1, hv1⟩ : ∃ v, atQ rs xi = v := ⟨_, rfl⟩
      have dv1 : decide (0 ≤ v1) = has := by rw [← hv1, atQ_any, hhas]
      rw [hv1] at AT
      have HHAS := Lib.hid hhas
      have DV := Lib.hid dv1
      clear hv1 hhas
      go_wp2_with fail
      refine AT.out.mono ?_
      rintro e w2 ⟨rfl, hw2⟩
      subst w2
      clear AT
      go_upto_block 2 with fail
      clear a0 a2 dv1 DV
      go_cut [6] (fun v wx => ∃ (n2 : Nat) (qa2 : Option Addr) (qc2 : Nat) (rs2 : List Rq) (ra2 : Option Addr) (rc2 : Nat), n2 ≤ i + 1 ∧ v = .slice ra2 n2 rc2 ∧ Hid (QpS w wx q most qa2 qc2 rs2 n2 ra2 rc2))
      case first =>
        clear AW HA HAC
        have NM : Hid (¬ MineQ q qa ab) := Lib.hid (fun h => by
          rcases h with h | h
          · exact box_other HS1.out.qm.box BNA.out (by decide) h.symm
          · have h9 := HS1.out.qm.own
            rw [h] at h9
            exact own_not_box5 h9 BNA.out (by decide) rfl)
        have a0 := BNA.out.cell 0
        have a1 := BNA.out.cell 1
        have a2 := BNA.out.cell 2
        have a3 := BNA.out.cell 3
        have a4 := BNA.out.cell 4
        have a5 := BNA.out.cell 5
        have a6 := BNA.out.cell 6
        by_cases h0 : xw = 0
        · as_aux_lemma =>
            subst h0
            have e0 : ((0 : Int) == 0) = true := rfl
            have PU := Lib.hid (push_at HS1.out.qm HS1.out.srt n HS1.out.len (by omega) HS1.out.bel.size ⟨xi, xh, xp, xr, xt⟩)
            unfold rqA at PU
            dsimp only at PU
            cases has with
            | true =>
              have PT := Lib.hid (PU.out.mono (R' := fun e w' => e = .returned (.int .i64 10) ∧ Below wa.heap.size wa w') (fun e w' h => by
                rcases h with ⟨_, h1, h2⟩ | ⟨h, _⟩ | ⟨h, _⟩
                · exact ⟨h1, h2⟩
                · rw [HHAS.out] at h; cases h
                · rw [HHAS.out] at h; cases h))
              clear PU
              go_wp2_with fail
              refine PT.out.mono ?_
              rintro e w3 ⟨rfl, b3⟩
              have QN := Lib.hid (HS1.out.later b3)
              clear b3 PT HS1 a0 a1 a2 a3 a4 a5 a6
              go_wp2
              go_meet
              exact ⟨n, qa, qc, rs, ra, rc, by omega, rfl, QN⟩
            | false =>
              by_cases hm : most ≤ (n : Int)
              · have dm : decide (most ≤ (n : Int)) = true := decide_eq_true hm
                have PT := Lib.hid (PU.out.mono (R' := fun e w' => e = .returned (.int .i64 5) ∧ Below wa.heap.size wa w') (fun e w' h => by
                  rcases h with ⟨h, _⟩ | ⟨_, _, h1, h2⟩ | ⟨_, h, _⟩
                  · rw [HHAS.out] at h; cases h
                  · exact ⟨h1, h2⟩
                  · exact absurd (by rw [HS1.out.len]; exact hm) h))
                clear PU
                go_wp2_with fail
                refine PT.out.mono ?_
                rintro e w3 ⟨rfl, b3⟩
                have QN := Lib.hid (HS1.out.later b3)
                clear b3 PT HS1 a0 a1 a2 a3 a4 a5 a6
                go_wp2
                go_meet
                exact ⟨n, qa, qc, rs, ra, rc, by omega, rfl, QN⟩
              · have dm : decide (most ≤ (n : Int)) = false := decide_eq_false hm
                have PT := Lib.hid (PU.out.mono (R' := fun e w' => e = .returned (.int .i64 0) ∧ ∃ a' c', Qm w' w.heap.size q a' c' (insQ rs ⟨xi, xh, xp, xr, xt⟩) most ∧ TurnQ q qa wa a' w') (fun e w' h => by
                  rcases h with ⟨h, _⟩ | ⟨_, h, _⟩ | ⟨_, _, h1, h2⟩
                  · rw [HHAS.out] at h; cases h
                  · exact absurd (by rw [HS1.out.len] at h; exact h) hm
                  · exact ⟨h1, h2⟩))
                clear PU
                go_wp2_with fail
                refine PT.out.mono ?_
                rintro e w3 ⟨rfl, a', c', q3, t3⟩
                have RW := HS1.out.row t3
                have NB : ¬ MineQ q qa ab := NM.out
                have BA3 := Lib.hid (BNA.out.only t3.1 NB)
                have HID := Lib.hid (dst_new (r := ⟨xi, xh, xp, xr, xt⟩) HHAS.out)
                have LN : Hid ((insQ rs ⟨xi, xh, xp, xr, xt⟩).length = n + 1) := Lib.hid (by rw [insQ_len, HS1.out.len])
                have SR := Lib.hid (srt_ins HS1.out.srt HID.out)
                have DS := Lib.hid (dst_ins HS1.out.dst HID.out)
                have RI := Lib.hid (rins_at rs n HS1.out.len (by omega) w.heap.size ra rc ⟨xi, xh, xp, xr, xt⟩ w3 RW.1)
                have B3 := Lib.hid RW.2
                have Q3 := Lib.hid q3
                unfold rqA at RI
                dsimp only at RI
                clear RW NB q3 t3 PT HS1 HID a0 a1 a2 a3 a4 a5 a6
                have a0 := BA3.out.cell 0
                have a1 := BA3.out.cell 1
                have a2 := BA3.out.cell 2
                have a3 := BA3.out.cell 3
                have a4 := BA3.out.cell 4
                have a5 := BA3.out.cell 5
                have a6 := BA3.out.cell 6
                have la3 := BA3.out.lt
                go_wp2_with fail
                refine RI.out.mono ?_
                rintro e w4 ⟨a4', c4', rfl, o4, b4⟩
                have QN := Lib.hid (QpS.new Q3.out B3.out SR.out DS.out LN.out o4 b4)
                clear o4 b4 RI a0 a1 a2 a3 a4 a5 a6 Q3 B3
                go_wp2
                go_meet
                exact ⟨n + 1, a', c', _, a4', c4', by omega, rfl, QN⟩
        · by_cases h1 : xw = 1
          · subst h1
            have e0 : ((1 : Int) == 0) = false := rfl
            have e1 : ((1 : Int) == 1) = true := rfl
            have PU := Lib.hid (back_at HS1.out.qm HS1.out.srt n HS1.out.len (by omega) HS1.out.bel.size ⟨xi, xh, xp, xr, xt⟩)
            unfold rqA at PU
            dsimp only at PU
            cases has with
            | true =>
              have PT := Lib.hid (PU.out.mono (R' := fun e w' => e = .returned (.bool false) ∧ Below wa.heap.size wa w') (fun e w' h => by
                rcases h with ⟨_, h1, h2⟩ | ⟨h, _⟩
                · exact ⟨h1, h2⟩
                · rw [HHAS.out] at h; cases h))
              clear PU
              go_wp2_with fail
              refine PT.out.mono ?_
              rintro e w3 ⟨rfl, b3⟩
              have QN := Lib.hid (HS1.out.later b3)
              clear b3 PT HS1 a0 a1 a2 a3 a4 a5 a6
              go_wp2
              go_meet
              exact ⟨n, qa, qc, rs, ra, rc, by omega, rfl, QN⟩
            | false =>
              have PT := Lib.hid (PU.out.mono (R' := fun e w' => e = .returned (.bool true) ∧ ∃ a' c', Qm w' w.heap.size q a' c' (insQ rs ⟨xi, xh, xp, xr, xt⟩) most ∧ TurnQ q qa wa a' w') (fun e w' h => by
                rcases h with ⟨h, _⟩ | ⟨_, h1, h2⟩
                · rw [HHAS.out] at h; cases h
                · exact ⟨h1, h2⟩))
              clear PU
              go_wp2_with fail
              refine PT.out.mono ?_
              rintro e w3 ⟨rfl, a', c', q3, t3⟩
              have RW := HS1.out.row t3
              have NB : ¬ MineQ q qa ab := NM.out
              have BA3 := Lib.hid (BNA.out.only t3.1 NB)
              have HID := Lib.hid (dst_new (r := ⟨xi, xh, xp, xr, xt⟩) HHAS.out)
              have LN : Hid ((insQ rs ⟨xi, xh, xp, xr, xt⟩).length = n + 1) := Lib.hid (by rw [insQ_len, HS1.out.len])
              have SR := Lib.hid (srt_ins HS1.out.srt HID.out)
              have DS := Lib.hid (dst_ins HS1.out.dst HID.out)
              have RI := Lib.hid (rins_at rs n HS1.out.len (by omega) w.heap.size ra rc ⟨xi, xh, xp, xr, xt⟩ w3 RW.1)
              have B3 := Lib.hid RW.2
              have Q3 := Lib.hid q3
              unfold rqA at RI
              dsimp only at RI
              clear RW NB q3 t3 PT HS1 HID a0 a1 a2 a3 a4 a5 a6
              have a0 := BA3.out.cell 0
              have a1 := BA3.out.cell 1
              have a2 := BA3.out.cell 2
              have a3 := BA3.out.cell 3
              have a4 := BA3.out.cell 4
              have a5 := BA3.out.cell 5
              have a6 := BA3.out.cell 6
              have la3 := BA3.out.lt
              go_wp2_with fail
              refine RI.out.mono ?_
              rintro e w4 ⟨a4', c4', rfl, o4, b4⟩
              have QN := Lib.hid (QpS.new Q3.out B3.out SR.out DS.out LN.out o4 b4)
              clear o4 b4 RI a0 a1 a2 a3 a4 a5 a6 Q3 B3
              go_wp2
              go_meet
              exact ⟨n + 1, a', c', _, a4', c4', by omega, rfl, QN⟩
          · by_cases h2' : xw = 2
            · subst h2'
              have e0 : ((2 : Int) == 0) = false := rfl
              have e1 : ((2 : Int) == 1) = false := rfl
              have e2 : ((2 : Int) == 2) = true := rfl
              have A2 := Lib.hid (at_at rs n HS1.out.len (by omega) ra rc xn wa (HS1.out.ro.rdQ))
              have DR := Lib.hid (drop_at HS1.out.qm n HS1.out.len (by omega) HS1.out.bel.size xn)
              obtain ⟨hs2, hhs2⟩ : ∃ b, rs.any (idB xn) = b := ⟨_, rfl⟩
              rw [hhs2] at DR
              cases hs2 with
              | true =>
                obtain ⟨k, hk, hkl, hkf⟩ := atQ_in HS1.out.dst hhs2
                rw [hk] at A2
                have HKF := Lib.hid hkf
                have hkn : k < n := by have := HS1.out.len; omega
                have dk : decide ((0 : Int) ≤ (k : Int)) = true := decide_eq_true (by omega)
                clear hk hkl hkf hhs2
                go_wp2_with fail
                refine A2.out.mono ?_
                rintro e w2 ⟨rfl, hw2⟩
                subst w2
                clear A2
                go_wp2_with fail
                refine DR.out.mono ?_
                rintro e w3 ⟨rfl, a', c', q3, t3⟩
                have RW := HS1.out.row t3
                have NB : ¬ MineQ q qa ab := NM.out
                have BA3 := Lib.hid (BNA.out.only t3.1 NB)
                obtain ⟨rg, hrg⟩ : ∃ g, ra = some ⟨g, 0, none⟩ := by
                  obtain ⟨g, h, _⟩ := RW.1.some_ (by omega)
                  exact ⟨g, h⟩
                have LN : Hid ((rs.take k ++ rs.drop (k + 1)).length = n - 1) := Lib.hid (by rw [List.length_append, List.length_take, List.length_drop]; have := HS1.out.len; omega)
                have SR : Hid (Srt (rs.take k ++ rs.drop (k + 1))) := Lib.hid (by rw [HKF.out]; exact srt_filter HS1.out.srt _)
                have DS : Hid (Dst (rs.take k ++ rs.drop (k + 1))) := Lib.hid (by rw [HKF.out]; exact dst_filter HS1.out.dst _)
                rw [← HKF.out] at q3
                have RWO := RW.1
                rw [hrg] at RWO
                have RI := Lib.hid (rwo_at rs n HS1.out.len (by omega) w.heap.size rg rc k hkn w3 RWO)
                rw [hrg]
                have B3 := Lib.hid RW.2
                have Q3 := Lib.hid q3
                clear RW RWO NB q3 t3 DR HS1 HKF a0 a1 a2 a3 a4 a5 a6
                go_wp2_with fail
                refine RI.out.mono ?_
                rintro e w4 ⟨a4', c4', rfl, o4, b4⟩
                have QN := Lib.hid (QpS.new Q3.out B3.out SR.out DS.out LN.out o4 b4)
                clear o4 b4 RI Q3 B3
                go_wp2
                go_meet
                exact ⟨n - 1, a', c', _, a4', c4', by omega, rfl, QN⟩
              | false =>
                have hk : atQ rs xn = -1 := by
                  have := atQ_any rs xn
                  rw [hhs2, decide_eq_false_iff_not] at this
                  unfold atQ at this ⊢
                  split
                  · rename_i h
                    rw [if_pos h] at this
                    omega
                  · rfl
                rw [hk] at A2
                have NO := Lib.hid (any_none hhs2)
                clear hk hhs2
                go_wp2_with fail
                refine A2.out.mono ?_
                rintro e w2 ⟨rfl, hw2⟩
                subst w2
                clear A2
                go_wp2_with fail
                refine DR.out.mono ?_
                rintro e w3 ⟨rfl, a', c', q3, t3⟩
                have QN := Lib.hid (HS1.out.same (m := 0) q3 t3 NO.out)
                clear q3 t3 DR HS1 a0 a1 a2 a3 a4 a5 a6
                go_wp2
                go_meet
                exact ⟨n, a', c', rs, ra, rc, by omega, rfl, QN⟩
            · by_cases h3 : xw = 3
              · subst h3
                have e0 : ((3 : Int) == 0) = false := rfl
                have e1 : ((3 : Int) == 1) = false := rfl
                have e2 : ((3 : Int) == 2) = false := rfl
                have e3 : ((3 : Int) == 3) = true := rfl
                go_upto_region 31 with fail
                have OA1 := Lib.hid (Own.lit (w := wa) (B := wa.heap.size) (n := 0) (size := 5) (cs := #[]) (E := 27) (Nat.le_refl _) (by omega) rfl)
                have WA1 := Lib.hid ((Below.refl wa.heap.size wa).alloc (Nat.le_refl _) (.cells #[] 27))
                obtain ⟨wb, hwb⟩ : ∃ W, wa.alloc (.cells #[] 27) = W := ⟨_, rfl⟩
                have hsz : wb.heap.size = wa.heap.size + 1 := by rw [← hwb]; simp
                rw [hwb] at OA1 WA1
                have OA2 := Lib.hid (Own.lit (w := wb) (B := wa.heap.size) (n := 0) (size := 5) (cs := #[]) (E := 27) WA1.out.size (by omega) rfl)
                have WA2 := Lib.hid ((Below.refl wb.heap.size wb).alloc (Nat.le_refl _) (.cells #[] 27))
                have RM0 : Hid (RmS wa (wb.alloc (.cells #[] 27)) rs (lateB xn) 0 (some ⟨wa.heap.size + 1, 0, none⟩) 0 [] (some ⟨wa.heap.size, 0, none⟩) 0 []) := Lib.hid ⟨by rw [← hsz]; exact OA2.out, OA1.out.later WA2.out, (fun k hk e => by injection hk with hk; injection hk with hk; injection e with e; injection e with e; omega), WA1.out.trans (WA2.out.mono WA1.out.size), rfl, rfl⟩
                rw [← hwb] at RM0
                clear OA1 WA1 OA2 WA2 hwb hsz
                go_wp2_with fail
                go_loopw [12, 13, 14] (fun vg vk vi wr => ∃ (j : Nat) (ak : Option Addr) (ck : Nat) (ks : List Rq) (ag : Option Addr) (cg : Nat) (gs : List Rq), j ≤ n ∧ vk = .slice ak ks.length ck ∧ vg = .slice ag gs.length cg ∧ vi = .int .i64 (j : Int) ∧ ks.length ≤ j ∧ gs.length ≤ j ∧ wa.heap.size ≤ wr.heap.size ∧ Hid (RmS wa wr rs (lateB xn) j ak ck ks ag cg gs)) (fun _ _ vi _ => n - (intOf vi).toNat)
                case atStart => exact ⟨0, _, 0, [], _, 0, [], by omega, rfl, rfl, rfl, by simp, by simp, RM0.out.bel.size, RM0⟩
                case round =>
                  obtain ⟨j, ak, ck, ks, ag, cg, gs, hj, rfl, rfl, rfl, lk, lg, szw, HR⟩ := hrel
                  clear RM0
                  obtain ⟨wl, rfl⟩ : ∃ W, W = wr := ⟨_, rfl⟩
                  by_cases hlt : j < n
                  · have hkd : decide ((j : Int) < (n : Int)) = true := decide_eq_true (by omega)
                    obtain ⟨x, hx⟩ : ∃ x, rs[j]? = some x := ⟨_, List.getElem?_eq_getElem (by rw [HS1.out.len]; exact hlt)⟩
                    obtain ⟨gq, hga, cl⟩ := (HS1.out.ro.rdQ.later HR.out.bel) j x hx
                    subst hga
                    have m0 := cl.c0
                    have m1 := cl.c1
                    have m2 := cl.c2
                    have m3 := cl.c3
                    have m4 := cl.c4
                    have HX := Lib.hid hx
                    have hj0 : (0 : Int) ≤ (j : Int) := by omega
                    have hj1 : (j : Int) < (n : Int) := by omega
                    have BX := Lib.hid (BNA.out.later HR.out.bel)
                    have a1 := BX.out.cell 1
                    have lX := BX.out.lt
                    obtain ⟨lb, hlb⟩ : ∃ b, lateB xn x = b := ⟨_, rfl⟩
                    have HLB := Lib.hid hlb
                    have HZG : Hid (rqC gs ++ (rqA x).toList = rqC (gs ++ [x])) := Lib.hid (by rw [rqC_app, rqC_cons, rqC_nil, List.append_nil]; rfl)
                    have HZK : Hid (rqC ks ++ (rqA x).toList = rqC (ks ++ [x])) := Lib.hid (by rw [rqC_app, rqC_cons, rqC_nil, List.append_nil]; rfl)
                    have H1 := Lib.hid (rqA_one x)
                    have HA5 : Hid ((rqA x).size = 5) := Lib.hid rfl
                    unfold lateB at hlb
                    obtain ⟨yi, yh, yp, yr, yt⟩ := x
                    unfold rqA at HZG HZK H1 HA5
                    dsimp only at m0 m1 m2 m3 m4 hlb HZG HZK H1 HA5
                    clear cl hx
                    go_upto_region 35 with fail
                    go_cut [118] (fun v wx => v = .bool lb ∧ Hid (Below wl.heap.size wl wx))
                    case first =>
                      by_cases g1 : 0 < yt
                      · have d5 : decide (0 < yt) = true := decide_eq_true g1
                        rw [d5, Bool.true_and] at hlb
                        obtain ⟨b9, hb9⟩ : ∃ b, decide (yt < xn) = b := ⟨_, rfl⟩
                        rw [hb9] at hlb
                        subst hlb
                        go_quiet (fail)
                        go_wp2
                        go_meet
                        exact ⟨rfl, Lib.hid (bin_drewN (Below.refl _ _) nq)⟩
                      · have d5 : decide (0 < yt) = false := decide_eq_false g1
                        rw [d5, Bool.false_and] at hlb
                        subst hlb
                        go_quiet (fail)
                        go_wp2
                        go_meet
                        exact ⟨rfl, Lib.hid (bin_drewN (Below.refl _ _) nq)⟩
                    case rest =>
                      obtain ⟨rfl, BC⟩ := hcut
                      obtain ⟨w2, hw2⟩ : ∃ W, wc = W := ⟨_, rfl⟩
                      rw [hw2] at BC ⊢
                      clear hw2 hlb
                      have k : ∀ {p : Addr} {u : Value}, wl.cell? p = some u → w2.cell? p = some u := fun hp => (BC.out.cell (World.block_lt_of_cell? _ _ hp)).trans hp
                      have n0 := k m0
                      have n1 := k m1
                      have n2 := k m2
                      have n3 := k m3
                      have n4 := k m4
                      have sz2 : wa.heap.size ≤ w2.heap.size := Nat.le_trans szw BC.out.size
                      clear m0 m1 m2 m3 m4 a1 k
                      cases lb with
                      | true =>
                        have OA := Lib.hid (HR.out.og.later BC.out)
                        go_wp2_with (at_builtin; refine wpList_app1 rowQ rfl _ _ rfl wa.heap.size ag gs.length cg (rqC gs) rfl OA.out #[.int .i64 yi, .string yh, .string yp, .int .i64 yr, .int .i64 yt] rfl HA5.out H1.out (by omega) (by decide) sz2 (gs.length + 1) rfl (rqC (gs ++ [⟨yi, yh, yp, yr, yt⟩])) HZG.out ?_; rintro g' cap2 w3 q1 q2 q3 q4)
                        have NX := Lib.hid (HR.out.gone HX.out HLB.out BC.out q1 q2 q3 q4)
                        have sz3 := Nat.le_trans sz2 q3.size
                        clear q1 q2 q3 q4 n0 n1 n2 n3 n4 HR OA
                        go_wp2
                        go_roundw
                        case rel => exact ⟨j + 1, ak, ck, ks, some ⟨g', 0, none⟩, cap2, gs ++ [⟨yi, yh, yp, yr, yt⟩], by omega, rfl, by rw [List.length_append]; rfl, by go_num, by omega, by simp; omega, sz3, NX⟩
                        case measure => exact ms_plays n j hlt
                      | false =>
                        have OA := Lib.hid (HR.out.ok.later BC.out)
                        go_wp2_with (at_builtin; refine wpList_app1 rowQ rfl _ _ rfl wa.heap.size ak ks.length ck (rqC ks) rfl OA.out #[.int .i64 yi, .string yh, .string yp, .int .i64 yr, .int .i64 yt] rfl HA5.out H1.out (by omega) (by decide) sz2 (ks.length + 1) rfl (rqC (ks ++ [⟨yi, yh, yp, yr, yt⟩])) HZK.out ?_; rintro g' cap2 w3 q1 q2 q3 q4)
                        have NX := Lib.hid (HR.out.kept HX.out HLB.out BC.out q1 q2 q3 q4)
                        have sz3 := Nat.le_trans sz2 q3.size
                        clear q1 q2 q3 q4 n0 n1 n2 n3 n4 HR OA
                        go_wp2
                        go_roundw
                        case rel => exact ⟨j + 1, some ⟨g', 0, none⟩, cap2, ks ++ [⟨yi, yh, yp, yr, yt⟩], ag, cg, gs, by omega, by rw [List.length_append]; rfl, rfl, by go_num, by simp; omega, by omega, sz3, NX⟩
                        case measure => exact ms_plays n j hlt
                  · have hkd : decide ((j : Int) < (n : Int)) = false := decide_eq_false (by omega)
                    obtain rfl : j = n := by omega
                    have hks := HR.out.ks
                    have hgs := HR.out.gs
                    rw [List.take_of_length_le (by rw [HS1.out.len]; exact Nat.le_refl _)] at hks hgs
                    have HT := Lib.hid (HS1.out.later HR.out.bel)
                    have BX := Lib.hid (BNA.out.later HR.out.bel)
                    have a1 := BX.out.cell 1
                    have lX := BX.out.lt
                    have OK := Lib.hid HR.out.ok
                    have OG := Lib.hid HR.out.og
                    have HKS := Lib.hid hks
                    have HGS := Lib.hid hgs
                    obtain ⟨lgn, hlgn⟩ : ∃ m, gs.length = m := ⟨_, rfl⟩
                    obtain ⟨lkn, hlkn⟩ : ∃ m, ks.length = m := ⟨_, rfl⟩
                    have LT : Hid (Calls Try.prog 16 #[.pointer (some ⟨q, 0, none⟩), .int .i64 xn] wl fun e w' => ∃ a' c' al cl, e = .returned (.slice al lgn cl) ∧ Hid (Qm w' w.heap.size q a' c' ks most) ∧ Hid (TurnQ q qa wl a' w') ∧ Hid (RdQ w' al gs)) := Lib.hid ((late_at HT.out.qm j HT.out.len (by omega) HT.out.bel.size xn).mono (fun e w' ⟨a', c', al, cl, he, h1, h2, h3, h4⟩ => by
                      rw [← HGS.out, hlgn] at he
                      rw [← HKS.out] at h1
                      have h5 := h3.rdQ
                      rw [← HGS.out] at h5
                      exact ⟨a', c', al, cl, he, Lib.hid h1, Lib.hid h2, Lib.hid h5⟩))
                    have SK : Hid (Srt ks) := Lib.hid (by rw [HKS.out]; exact srt_filter HS1.out.srt _)
                    have DK : Hid (Dst ks) := Lib.hid (by rw [HKS.out]; exact dst_filter HS1.out.dst _)
                    have AKG : Hid (∀ k, (ak = some ⟨k, 0, none⟩ ∨ ag = some ⟨k, 0, none⟩) → ¬ MineQ q qa k) := Lib.hid (fun k hk hm => by
                      have h1 : wa.heap.size ≤ k := by
                        rcases hk with hk | hk
                        · exact (own_lt OK.out hk).2
                        · exact (own_lt OG.out hk).2
                      rcases hm with hm | hm
                      · have := HS1.out.qm.box.lt
                        omega
                      · have := (own_lt HS1.out.qm.own hm).1
                        omega)
                    have LGN := Lib.hid hlgn
                    have LKN := Lib.hid hlkn
                    rw [hlgn] at OG
                    rw [hlkn] at OK
                    rw [hlgn, hlkn]
                    have lgj : lgn ≤ 80 := by omega
                    have lkj : lkn ≤ j := by omega
                    clear hks hgs HKS HGS HR hlgn hlkn lk lg
                    go_wp2_with fail
                    refine LT.out.mono ?_
                    rintro e w3 ⟨a', c', al, cl, rfl, Q3, T3, R3⟩
                    have OK3 := Lib.hid (OK.out.only T3.out.1 (fun g hg => AKG.out g (Or.inl hg)))
                    have OG3 := Lib.hid (OG.out.only T3.out.1 (fun g hg => AKG.out g (Or.inr hg)))
                    have B3 := Lib.hid (HT.out.bel.trans (HT.out.qm.turn T3.out HT.out.bel.size))
                    have RQ := Lib.hid (reqs_at gs lgn LGN.out (by omega) al ag cl cg w3 R3.out OG3.out.rdQ)
                    have AP : Hid (∀ k, ak = some ⟨k, 0, none⟩ → ¬ MineQ q a' k) := Lib.hid (fun k hk hm => by
                      rcases hm with hm | hm
                      · exact AKG.out k (Or.inl hk) (Or.inl hm)
                      · rcases T3.out.2 k hm with h3 | h3
                        · exact AKG.out k (Or.inl hk) (Or.inr h3)
                        · have := (own_lt OK.out hk).1
                          omega)
                    have QN3 : Hid (QpS w w3 q most a' c' ks lkn ak ck) := Lib.hid ⟨Q3.out, B3.out, SK.out, DK.out, LKN.out, OK3.out.mono HS1.out.bel.size, AP.out⟩
                    clear LT OK OG T3 Q3 HT a1 OK3 OG3 B3 AP AKG HS1 BX
                    go_wp2_with fail
                    refine RQ.out.mono ?_
                    rintro e w4 ⟨rfl, b4⟩
                    have QN := Lib.hid (QN3.out.later b4)
                    clear b4 RQ QN3
                    go_wp2
                    go_meet
                    exact ⟨lkn, a', c', ks, ak, ck, by omega, rfl, QN⟩
              · have e0 : (xw == 0) = false := by simpa using h0
                have e1 : (xw == 1) = false := by simpa using h1
                have e2 : (xw == 2) = false := by simpa using h2'
                have e3 : (xw == 3) = false := by simpa using h3
                go_wp2
                go_meet
                exact ⟨n, qa, qc, rs, ra, rc, by omega, rfl, HS1⟩
      case rest =>
        obtain ⟨n2, qa2, qc2, rs2, ra2, rc2, hn2, rfl, HS2⟩ := hcut
        obtain ⟨wk, hwk⟩ : ∃ W, wc = W := ⟨_, rfl⟩
        rw [hwk] at HS2 ⊢
        clear hwk HS1 BNA HHAS la hni
        have FI := Lib.hid (first_at HS2.out.qm)
        obtain ⟨hd, hhd⟩ : ∃ h, headQ rs2 = h := ⟨_, rfl⟩
        obtain ⟨fo, hfo⟩ : ∃ b : Bool, (!rs2.isEmpty) = b := ⟨_, rfl⟩
        rw [hhd, hfo] at FI
        have HHD := Lib.hid hhd
        have HFO : Hid (fo = decide (0 < n2)) := Lib.hid (by
          rw [← hfo, ← HS2.out.len]
          cases rs2 <;> simp)
        obtain ⟨zi, zh, zp, zr, zt⟩ := hd
        unfold rqA at FI
        dsimp only at FI
        clear hhd hfo
        go_wp2_with fail
        refine FI.out.mono ?_
        rintro e w5 ⟨rfl, b5⟩
        have HS3 := Lib.hid (HS2.out.later b5)
        clear b5 FI HS2
        have BNZ := Lib.hid (Box.new w5 #[.int .i64 zi, .string zh, .string zp, .int .i64 zr, .int .i64 zt] 27)
        have WNZ := Lib.hid ((Below.refl w5.heap.size w5).alloc (Nat.le_refl _) (.cells #[.int .i64 zi, .string zh, .string zp, .int .i64 zr, .int .i64 zt] 27))
        go_upto_region 42 with fail
        obtain ⟨w6, hw6⟩ : ∃ W, w5.alloc (.cells #[.int .i64 zi, .string zh, .string zp, .int .i64 zr, .int .i64 zt] 27) = W := ⟨_, rfl⟩
        obtain ⟨rb, hrb⟩ : ∃ B, w5.heap.size = B := ⟨_, rfl⟩
        rw [hw6] at BNZ WNZ
        rw [hrb] at BNZ
        rw [hw6, hrb]
        have HS4 := Lib.hid (HS3.out.later WNZ.out)
        clear HS3 WNZ hw6 hrb
        go_cut [174] (fun v wx => v = .bool false ∧ Hid (QpS w wx q most qa2 qc2 rs2 n2 ra2 rc2))
        case first =>
          have LE : Hid (∀ W, QpS w W q most qa2 qc2 rs2 n2 ra2 rc2 → Calls Try.prog 18 #[.pointer (some ⟨q, 0, none⟩)] W fun e w' => e = .returned (.int .i64 (n2 : Int)) ∧ w' = W) := Lib.hid (fun W h => by have := len_at h.qm; rw [h.len] at this; exact this)
          have AL : Hid (∀ W, QpS w W q most qa2 qc2 rs2 n2 ra2 rc2 → Calls Try.prog 19 #[.pointer (some ⟨q, 0, none⟩)] W fun e w' => ∃ a2 c2, e = .returned (.slice a2 n2 c2) ∧ Hid (RdQ w' a2 rs2) ∧ Hid (Below W.heap.size W w')) := Lib.hid (fun W h => (all_at h.qm n2 h.len (by omega)).mono (fun e w' ⟨a2, c2, he, h1, h2⟩ => ⟨a2, c2, he, Lib.hid (by have h9 := h1; rw [← h.len] at h9; exact h9.rdQ), Lib.hid h2⟩))
          have RE : Hid (∀ W a2 c2, QpS w W q most qa2 qc2 rs2 n2 ra2 rc2 → RdQ W a2 rs2 → Calls Try.prog 15 #[.slice a2 n2 c2, .slice ra2 n2 rc2] W fun e w' => e = .returned (.bool true) ∧ Hid (QpS w w' q most qa2 qc2 rs2 n2 ra2 rc2) ∧ Hid (Below W.heap.size W w')) := Lib.hid (fun W a2 c2 h hr => (reqs_at rs2 n2 h.len (by omega) a2 ra2 c2 rc2 W hr (by have h9 := h.ro; rw [← h.len] at h9; exact h9.rdQ)).mono (fun e w' ⟨he, hb⟩ => ⟨he, Lib.hid (h.later hb), Lib.hid hb⟩))
          have RN := Lib.hid (fun W => rq_neq zi zh zp zr zt W)
          have lz := BNZ.out.lt
          by_cases hp : 0 < n2
          · have hfo : fo = true := by rw [HFO.out]; exact decide_eq_true hp
            subst hfo
            have d8 : decide ((0 : Int) < (n2 : Int)) = true := decide_eq_true (by omega)
            have d8n : decide (0 < n2) = true := decide_eq_true hp
            obtain ⟨y, hy⟩ : ∃ y, rs2[0]? = some y := ⟨_, List.getElem?_eq_getElem (by rw [HS4.out.len]; exact hp)⟩
            obtain ⟨gq, hga, cl⟩ := (show RdQ w6 ra2 rs2 by have h9 := HS4.out.ro; rw [← HS4.out.len] at h9; exact h9.rdQ) 0 y hy
            subst hga
            have hyz : y = ⟨zi, zh, zp, zr, zt⟩ := by
              rw [← HHD.out]
              unfold headQ
              clear HS4 HHD HFO
              cases rs2 with
              | nil => simp at hy
              | cons x t => simp at hy; simp [hy]
            subst hyz
            have m0 := cl.c0
            have m1 := cl.c1
            have m2 := cl.c2
            have m3 := cl.c3
            have m4 := cl.c4
            have rn := RN.out
            have hp2 : (0 : Int) < (n2 : Int) := by omega
            dsimp only at m0 m1 m2 m3 m4
            simp only [Nat.zero_mul, Nat.zero_add] at m0 m1 m2 m3 m4
            have KM : Hid (∀ W, Below w6.heap.size w6 W → W.cell? ⟨gq, 0, none⟩ = some (.int .i64 zi) ∧ W.cell? ⟨gq, 1, none⟩ = some (.string zh) ∧ W.cell? ⟨gq, 2, none⟩ = some (.string zp) ∧ W.cell? ⟨gq, 3, none⟩ = some (.int .i64 zr) ∧ W.cell? ⟨gq, 4, none⟩ = some (.int .i64 zt)) := Lib.hid (fun W hW => by
              have k : ∀ {p : Addr} {u : Value}, w6.cell? p = some u → W.cell? p = some u := fun hp => (hW.cell (World.block_lt_of_cell? _ _ hp)).trans hp
              exact ⟨k m0, k m1, k m2, k m3, k m4⟩)
            clear m0 m1 m2 m3 m4
            clear cl hy HHD HFO RN
            refine wp_region_last 28 (fun w' => Below w6.heap.size w6 w') (by kernel_rfl) ((Below.refl _ _).drew) (fun hHeld hClosed => ?_)
            refine wpAnyL_take (i := 0) (v := ?_) rfl (by kernel_rfl) (by kernel_rfl) (by kernel_rfl) (by kernel_rfl) (fun _ _ _ h => h) (by kernel_rfl) hClosed (Or.inl ⟨by rfl, ?_⟩) hHeld (fun hClosed => ?_)
            rotate_left
            · intro wv hSw; go_simp; all_goals (with_reducible rfl)
            (try simp only [List.getElem_toArray, List.getElem_cons_zero, put_at, List.set])
            refine wpAnyL_take (i := 1) (v := ?_) rfl (by kernel_rfl) (by kernel_rfl) (by kernel_rfl) (by kernel_rfl) (fun _ _ _ h => h) (by kernel_rfl) hClosed (Or.inl ⟨by rfl, ?_⟩) hHeld (fun hClosed => ?_)
            rotate_left
            · intro wv hSw; go_simp; all_goals (with_reducible rfl)
            (try simp only [List.getElem_toArray, List.getElem_cons_succ, List.getElem_cons_zero, put_at, List.set])
            refine wpAnyL_take (i := 2) (v := ?_) rfl (by kernel_rfl) (by kernel_rfl) (by kernel_rfl) (by kernel_rfl) (fun _ _ _ h => h) (by kernel_rfl) hClosed (Or.inl ⟨by rfl, ?_⟩) hHeld (fun hClosed => ?_)
            rotate_left
            · intro wv hSw; go_simp; all_goals (with_reducible rfl)
            (try simp only [List.getElem_toArray, List.getElem_cons_succ, List.getElem_cons_zero, put_at, List.set])
            refine wpAnyL_take (i := 3) (v := ?_) rfl (by kernel_rfl) (by kernel_rfl) (by kernel_rfl) (by kernel_rfl) (fun _ _ _ h => h) (by kernel_rfl) hClosed (Or.inl ⟨by rfl, ?_⟩) hHeld (fun hClosed => ?_)
            rotate_left
            · intro wv hSw; go_simp; all_goals (with_reducible rfl)
            (try simp only [List.getElem_toArray, List.getElem_cons_succ, List.getElem_cons_zero, put_at, List.set])
            refine wpAnyL_take (i := 4) (v := ?_) rfl (by kernel_rfl) (by kernel_rfl) (by kernel_rfl) (by kernel_rfl) (fun _ _ _ h => h) (by kernel_rfl) hClosed (Or.inl ⟨by rfl, ?_⟩) hHeld (fun hClosed => ?_)
            rotate_left
            · intro wv hSw; go_simp; all_goals (with_reducible rfl)
            (try simp only [List.getElem_toArray, List.getElem_cons_succ, List.getElem_cons_zero, put_at, List.set])
            refine wpAnyL_take (i := 5) (v := ?_) rfl (by kernel_rfl) (by kernel_rfl) (by kernel_rfl) (by kernel_rfl) (fun _ _ _ h => h) (by kernel_rfl) hClosed (Or.inl ⟨by rfl, ?_⟩) hHeld (fun hClosed => ?_)
            rotate_left
            · intro wv hSw; go_simp; all_goals (with_reducible rfl)
            (try simp only [List.getElem_toArray, List.getElem_cons_succ, List.getElem_cons_zero, put_at, List.set])
            refine wpAnyL_take (i := 6) (v := ?_) rfl (by kernel_rfl) (by kernel_rfl) (by kernel_rfl) (by kernel_rfl) (fun _ _ _ h => h) (by kernel_rfl) hClosed (Or.inl ⟨by rfl, ?_⟩) hHeld (fun hClosed => ?_)
            rotate_left
            · intro wv hSw; go_simp; all_goals (with_reducible rfl)
            (try simp only [List.getElem_toArray, List.getElem_cons_succ, List.getElem_cons_zero, put_at, List.set])
            refine wpAnyL_take (i := 7) (v := ?_) rfl (by kernel_rfl) (by kernel_rfl) (by kernel_rfl) (by kernel_rfl) (fun _ _ _ h => h) (by kernel_rfl) hClosed (Or.inl ⟨by rfl, ?_⟩) hHeld (fun hClosed => ?_)
            rotate_left
            · intro wv hSw; go_simp; all_goals (with_reducible rfl)
            (try simp only [List.getElem_toArray, List.getElem_cons_succ, List.getElem_cons_zero, put_at, List.set])
            refine wpAnyL_take (i := 8) (v := .agg #[.int .i64 zi, .string zh, .string zp, .int .i64 zr, .int .i64 zt]) rfl (by kernel_rfl) (by kernel_rfl) (by kernel_rfl) (by kernel_rfl) (fun _ _ _ h => h) (by kernel_rfl) hClosed (Or.inl ⟨by rfl, ?_⟩) hHeld (fun hClosed => ?_)
            · intro wv hSw; exact exec_load_box (by rfl) (by rfl) (BNZ.out.later hSw) Try.underlying27 rfl (by kernel_rfl)
            (try simp only [List.getElem_toArray, List.getElem_cons_succ, List.getElem_cons_zero, put_at, List.set])
            refine wpAnyL_take (i := 9) (v := ?_) rfl (by kernel_rfl) (by kernel_rfl) (by kernel_rfl) (by kernel_rfl) (fun _ _ _ h => h) (by kernel_rfl) hClosed (Or.inl ⟨by rfl, ?_⟩) hHeld (fun hClosed => ?_)
            rotate_left
            · intro wv hSw; go_simp; all_goals (with_reducible rfl)
            (try simp only [List.getElem_toArray, List.getElem_cons_succ, List.getElem_cons_zero, put_at, List.set])
            refine wpAnyL_take (i := 10) (v := ?_) rfl (by kernel_rfl) (by kernel_rfl) (by kernel_rfl) (by kernel_rfl) (fun _ _ _ h => h) (by kernel_rfl) hClosed (Or.inl ⟨by rfl, ?_⟩) hHeld (fun hClosed => ?_)
            rotate_left
            · intro wv hSw; go_simp; all_goals (with_reducible rfl)
            (try simp only [List.getElem_toArray, List.getElem_cons_succ, List.getElem_cons_zero, put_at, List.set])
            refine wpAnyL_take (i := 11) (v := ?_) rfl (by kernel_rfl) (by kernel_rfl) (by kernel_rfl) (by kernel_rfl) (fun _ _ _ h => h) (by kernel_rfl) hClosed (Or.inl ⟨by rfl, ?_⟩) hHeld (fun hClosed => ?_)
            rotate_left
            · intro wv hSw; obtain ⟨m0, m1, m2, m3, m4⟩ := KM.out wv hSw; go_simp; all_goals (with_reducible rfl)
            (try simp only [List.getElem_toArray, List.getElem_cons_succ, List.getElem_cons_zero, put_at, List.set])
            refine wpAnyL_take (i := 12) (v := ?_) rfl (by kernel_rfl) (by kernel_rfl) (by kernel_rfl) (by kernel_rfl) (fun _ _ _ h => h) (by kernel_rfl) hClosed (Or.inl ⟨by rfl, ?_⟩) hHeld (fun hClosed => ?_)
            rotate_left
            · intro wv hSw; go_simp; all_goals (with_reducible rfl)
            (try simp only [List.getElem_toArray, List.getElem_cons_succ, List.getElem_cons_zero, put_at, List.set])
            refine wpAnyL_take (i := 13) (v := ?_) rfl (by kernel_rfl) (by kernel_rfl) (by kernel_rfl) (by kernel_rfl) (fun _ _ _ h => h) (by kernel_rfl) hClosed (Or.inl ⟨by rfl, ?_⟩) hHeld (fun hClosed => ?_)
            rotate_left
            · intro wv hSw; go_simp; all_goals (with_reducible rfl)
            (try simp only [List.getElem_toArray, List.getElem_cons_succ, List.getElem_cons_zero, put_at, List.set])
            refine wpAnyL_take (i := 14) (v := ?_) rfl (by kernel_rfl) (by kernel_rfl) (by kernel_rfl) (by kernel_rfl) (fun _ _ _ h => h) (by kernel_rfl) hClosed (Or.inl ⟨by rfl, ?_⟩) hHeld (fun hClosed => ?_)
            rotate_left
            · intro wv hSw; go_simp; all_goals (with_reducible rfl)
            (try simp only [List.getElem_toArray, List.getElem_cons_succ, List.getElem_cons_zero, put_at, List.set])
            refine wpAnyL_take (i := 15) (v := ?_) rfl (by kernel_rfl) (by kernel_rfl) (by kernel_rfl) (by kernel_rfl) (fun _ _ _ h => h) (by kernel_rfl) hClosed (Or.inl ⟨by rfl, ?_⟩) hHeld (fun hClosed => ?_)
            rotate_left
            · intro wv hSw; go_simp; all_goals (with_reducible rfl)
            (try simp only [List.getElem_toArray, List.getElem_cons_succ, List.getElem_cons_zero, put_at, List.set])
            refine wpAnyL_take (i := 16) (v := ?_) rfl (by kernel_rfl) (by kernel_rfl) (by kernel_rfl) (by kernel_rfl) (fun _ _ _ h => h) (by kernel_rfl) hClosed (Or.inl ⟨by rfl, ?_⟩) hHeld (fun hClosed => ?_)
            rotate_left
            · intro wv hSw; go_simp; all_goals (with_reducible rfl)
            (try simp only [List.getElem_toArray, List.getElem_cons_succ, List.getElem_cons_zero, put_at, List.set])
            refine wpAnyL_take (i := 18) (v := ?_) rfl (by kernel_rfl) (by kernel_rfl) (by kernel_rfl) (by kernel_rfl) (fun _ _ _ h => h) (by kernel_rfl) hClosed (Or.inl ⟨by rfl, ?_⟩) hHeld (fun hClosed => ?_)
            rotate_left
            · intro wv hSw; go_simp; all_goals (with_reducible rfl)
            (try simp only [List.getElem_toArray, List.getElem_cons_succ, List.getElem_cons_zero, put_at, List.set])
            refine wpAnyL_take (i := 19) (v := ?_) rfl (by kernel_rfl) (by kernel_rfl) (by kernel_rfl) (by kernel_rfl) (fun _ _ _ h => h) (by kernel_rfl) hClosed (Or.inl ⟨by rfl, ?_⟩) hHeld (fun hClosed => ?_)
            rotate_left
            · intro wv hSw; go_simp; all_goals (with_reducible rfl)
            (try simp only [List.getElem_toArray, List.getElem_cons_succ, List.getElem_cons_zero, put_at, List.set])
            refine wpAnyL_one (i := 17) rfl (by kernel_rfl) (by kernel_rfl) hClosed (fun KK hK => ?_)
            go_simp
            refine (LE.out _ (HS4.out.later hHeld)).mono ?_
            rintro e w8 ⟨rfl, hw8⟩
            subst hw8
            go_wp2_with fail
            refine hK.out _ _ ?_ (fun hClosed hHeld => ?_)
            · exact hHeld
            clear hK KK
            (first | simp only [List.getElem_toArray, List.getElem_cons_succ, List.getElem_cons_zero, put_at, List.set] | (try simp only [put_at, List.set]))
            refine wpAnyL_take (i := 20) (v := ?_) rfl (by kernel_rfl) (by kernel_rfl) (by kernel_rfl) (by kernel_rfl) (fun _ _ _ h => h) (by kernel_rfl) hClosed (Or.inl ⟨by rfl, ?_⟩) hHeld (fun hClosed => ?_)
            rotate_left
            · intro wv hSw; go_simp; all_goals (with_reducible rfl)
            (try simp only [List.getElem_toArray, List.getElem_cons_succ, List.getElem_cons_zero, put_at, List.set])
            refine wpAnyL_take (i := 21) (v := ?_) rfl (by kernel_rfl) (by kernel_rfl) (by kernel_rfl) (by kernel_rfl) (fun _ _ _ h => h) (by kernel_rfl) hClosed (Or.inl ⟨by rfl, ?_⟩) hHeld (fun hClosed => ?_)
            rotate_left
            · intro wv hSw; go_simp; all_goals (with_reducible rfl)
            (try simp only [List.getElem_toArray, List.getElem_cons_succ, List.getElem_cons_zero, put_at, List.set])
            refine wpAnyL_take (i := 22) (v := ?_) rfl (by kernel_rfl) (by kernel_rfl) (by kernel_rfl) (by kernel_rfl) (fun _ _ _ h => h) (by kernel_rfl) hClosed (Or.inl ⟨by rfl, ?_⟩) hHeld (fun hClosed => ?_)
            rotate_left
            · intro wv hSw; go_simp; all_goals (with_reducible rfl)
            (try simp only [List.getElem_toArray, List.getElem_cons_succ, List.getElem_cons_zero, put_at, List.set])
            refine wpAnyL_take (i := 23) (v := ?_) rfl (by kernel_rfl) (by kernel_rfl) (by kernel_rfl) (by kernel_rfl) (fun _ _ _ h => h) (by kernel_rfl) hClosed (Or.inl ⟨by rfl, ?_⟩) hHeld (fun hClosed => ?_)
            rotate_left
            · intro wv hSw; go_simp; all_goals (with_reducible rfl)
            (try simp only [List.getElem_toArray, List.getElem_cons_succ, List.getElem_cons_zero, put_at, List.set])
            refine wpAnyL_take (i := 25) (v := ?_) rfl (by kernel_rfl) (by kernel_rfl) (by kernel_rfl) (by kernel_rfl) (fun _ _ _ h => h) (by kernel_rfl) hClosed (Or.inl ⟨by rfl, ?_⟩) hHeld (fun hClosed => ?_)
            rotate_left
            · intro wv hSw; go_simp; all_goals (with_reducible rfl)
            (try simp only [List.getElem_toArray, List.getElem_cons_succ, List.getElem_cons_zero, put_at, List.set])
            refine wpAnyL_one (i := 24) rfl (by kernel_rfl) (by kernel_rfl) hClosed (fun KK hK => ?_)
            go_simp
            refine (AL.out _ (HS4.out.later hHeld)).mono ?_
            rintro e w9 ⟨a9, c9, rfl, R9, B9⟩
            go_wp2_with fail
            refine hK.out _ _ ?_ (fun hClosed hHeld => ?_)
            · exact hHeld.trans (B9.out.mono hHeld.size)
            clear hK KK
            (first | simp only [List.getElem_toArray, List.getElem_cons_succ, List.getElem_cons_zero, put_at, List.set] | (try simp only [put_at, List.set]))
            refine wpAnyL_one (i := 26) rfl (by kernel_rfl) (by kernel_rfl) hClosed (fun KK hK => ?_)
            go_simp
            refine (RE.out _ a9 c9 (HS4.out.later hHeld) R9.out).mono ?_
            rintro e w10 ⟨rfl, HS7, B10⟩
            go_wp2_with fail
            refine hK.out _ _ ?_ (fun hClosed hHeld => ?_)
            · exact hHeld.trans (B10.out.mono hHeld.size)
            clear hK KK
            (first | simp only [List.getElem_toArray, List.getElem_cons_succ, List.getElem_cons_zero, put_at, List.set] | (try simp only [put_at, List.set]))
            refine wpAnyL_take (i := 27) (v := ?_) rfl (by kernel_rfl) (by kernel_rfl) (by kernel_rfl) (by kernel_rfl) (fun _ _ _ h => h) (by kernel_rfl) hClosed (Or.inl ⟨by rfl, ?_⟩) hHeld (fun hClosed => ?_)
            rotate_left
            · intro wv hSw; go_simp; all_goals (with_reducible rfl)
            (try simp only [List.getElem_toArray, List.getElem_cons_succ, List.getElem_cons_zero, put_at, List.set])
            refine wpAnyL_last rfl (by kernel_rfl) (by kernel_rfl) (fun KK hK => ?_)
            go_simp
            refine hK.out _ _ ?_
            (try simp only [put_at, List.set])
            go_wp2
            go_meet
            exact ⟨rfl, HS7⟩
          · have hfo : fo = false := by rw [HFO.out]; exact decide_eq_false hp
            subst hfo
            obtain rfl : n2 = 0 := by omega
            have d8 : decide ((0 : Int) < ((0 : Nat) : Int)) = false := rfl
            clear HHD HFO RN hp
            refine wp_region_last 28 (fun w' => Below w6.heap.size w6 w') (by kernel_rfl) ((Below.refl _ _).drew) (fun hHeld hClosed => ?_)
            refine wpAnyL_take (i := 0) (v := ?_) rfl (by kernel_rfl) (by kernel_rfl) (by kernel_rfl) (by kernel_rfl) (fun _ _ _ h => h) (by kernel_rfl) hClosed (Or.inl ⟨by rfl, ?_⟩) hHeld (fun hClosed => ?_)
            rotate_left
            · intro wv hSw; go_simp; all_goals (with_reducible rfl)
            (try simp only [List.getElem_toArray, List.getElem_cons_zero, put_at, List.set])
            refine wpAnyL_take (i := 1) (v := ?_) rfl (by kernel_rfl) (by kernel_rfl) (by kernel_rfl) (by kernel_rfl) (fun _ _ _ h => h) (by kernel_rfl) hClosed (Or.inl ⟨by rfl, ?_⟩) hHeld (fun hClosed => ?_)
            rotate_left
            · intro wv hSw; go_simp; all_goals (with_reducible rfl)
            (try simp only [List.getElem_toArray, List.getElem_cons_succ, List.getElem_cons_zero, put_at, List.set])
            refine wpAnyL_take (i := 2) (v := ?_) rfl (by kernel_rfl) (by kernel_rfl) (by kernel_rfl) (by kernel_rfl) (fun _ _ _ h => h) (by kernel_rfl) hClosed (Or.inl ⟨by rfl, ?_⟩) hHeld (fun hClosed => ?_)
            rotate_left
            · intro wv hSw; go_simp; all_goals (with_reducible rfl)
            (try simp only [List.getElem_toArray, List.getElem_cons_succ, List.getElem_cons_zero, put_at, List.set])
            refine wpAnyL_take (i := 3) (v := ?_) rfl (by kernel_rfl) (by kernel_rfl) (by kernel_rfl) (by kernel_rfl) (fun _ _ _ h => h) (by kernel_rfl) hClosed (Or.inl ⟨by rfl, ?_⟩) hHeld (fun hClosed => ?_)
            rotate_left
            · intro wv hSw; go_simp; all_goals (with_reducible rfl)
            (try simp only [List.getElem_toArray, List.getElem_cons_succ, List.getElem_cons_zero, put_at, List.set])
            refine wpAnyL_take (i := 4) (v := ?_) rfl (by kernel_rfl) (by kernel_rfl) (by kernel_rfl) (by kernel_rfl) (fun _ _ _ h => h) (by kernel_rfl) hClosed (Or.inl ⟨by rfl, ?_⟩) hHeld (fun hClosed => ?_)
            rotate_left
            · intro wv hSw; go_simp; all_goals (with_reducible rfl)
            (try simp only [List.getElem_toArray, List.getElem_cons_succ, List.getElem_cons_zero, put_at, List.set])
            refine wpAnyL_take (i := 5) (v := ?_) rfl (by kernel_rfl) (by kernel_rfl) (by kernel_rfl) (by kernel_rfl) (fun _ _ _ h => h) (by kernel_rfl) hClosed (Or.inl ⟨by rfl, ?_⟩) hHeld (fun hClosed => ?_)
            rotate_left
            · intro wv hSw; go_simp; all_goals (with_reducible rfl)
            (try simp only [List.getElem_toArray, List.getElem_cons_succ, List.getElem_cons_zero, put_at, List.set])
            refine wpAnyL_take (i := 6) (v := ?_) rfl (by kernel_rfl) (by kernel_rfl) (by kernel_rfl) (by kernel_rfl) (fun _ _ _ h => h) (by kernel_rfl) hClosed (Or.inl ⟨by rfl, ?_⟩) hHeld (fun hClosed => ?_)
            rotate_left
            · intro wv hSw; go_simp; all_goals (with_reducible rfl)
            (try simp only [List.getElem_toArray, List.getElem_cons_succ, List.getElem_cons_zero, put_at, List.set])
            refine wpAnyL_take (i := 7) (v := ?_) rfl (by kernel_rfl) (by kernel_rfl) (by kernel_rfl) (by kernel_rfl) (fun _ _ _ h => h) (by kernel_rfl) hClosed (Or.inl ⟨by rfl, ?_⟩) hHeld (fun hClosed => ?_)
            rotate_left
            · intro wv hSw; go_simp; all_goals (with_reducible rfl)
            (try simp only [List.getElem_toArray, List.getElem_cons_succ, List.getElem_cons_zero, put_at, List.set])
            refine wpAnyL_take (i := 8) (v := undef) rfl (by kernel_rfl) (by kernel_rfl) (by kernel_rfl) (by kernel_rfl) (fun _ _ _ h => h) (by kernel_rfl) hClosed (Or.inr ⟨by rfl, rfl⟩) hHeld (fun hClosed => ?_)
            (try simp only [List.getElem_toArray, List.getElem_cons_succ, List.getElem_cons_zero, put_at, List.set])
            refine wpAnyL_take (i := 9) (v := undef) rfl (by kernel_rfl) (by kernel_rfl) (by kernel_rfl) (by kernel_rfl) (fun _ _ _ h => h) (by kernel_rfl) hClosed (Or.inr ⟨by rfl, rfl⟩) hHeld (fun hClosed => ?_)
            (try simp only [List.getElem_toArray, List.getElem_cons_succ, List.getElem_cons_zero, put_at, List.set])
            refine wpAnyL_take (i := 10) (v := undef) rfl (by kernel_rfl) (by kernel_rfl) (by kernel_rfl) (by kernel_rfl) (fun _ _ _ h => h) (by kernel_rfl) hClosed (Or.inr ⟨by rfl, rfl⟩) hHeld (fun hClosed => ?_)
            (try simp only [List.getElem_toArray, List.getElem_cons_succ, List.getElem_cons_zero, put_at, List.set])
            refine wpAnyL_take (i := 11) (v := undef) rfl (by kernel_rfl) (by kernel_rfl) (by kernel_rfl) (by kernel_rfl) (fun _ _ _ h => h) (by kernel_rfl) hClosed (Or.inr ⟨by rfl, rfl⟩) hHeld (fun hClosed => ?_)
            (try simp only [List.getElem_toArray, List.getElem_cons_succ, List.getElem_cons_zero, put_at, List.set])
            refine wpAnyL_take (i := 12) (v := undef) rfl (by kernel_rfl) (by kernel_rfl) (by kernel_rfl) (by kernel_rfl) (fun _ _ _ h => h) (by kernel_rfl) hClosed (Or.inr ⟨by rfl, rfl⟩) hHeld (fun hClosed => ?_)
            (try simp only [List.getElem_toArray, List.getElem_cons_succ, List.getElem_cons_zero, put_at, List.set])
            refine wpAnyL_take (i := 13) (v := ?_) rfl (by kernel_rfl) (by kernel_rfl) (by kernel_rfl) (by kernel_rfl) (fun _ _ _ h => h) (by kernel_rfl) hClosed (Or.inl ⟨by rfl, ?_⟩) hHeld (fun hClosed => ?_)
            rotate_left
            · intro wv hSw; go_simp; all_goals (with_reducible rfl)
            (try simp only [List.getElem_toArray, List.getElem_cons_succ, List.getElem_cons_zero, put_at, List.set])
            refine wpAnyL_take (i := 14) (v := ?_) rfl (by kernel_rfl) (by kernel_rfl) (by kernel_rfl) (by kernel_rfl) (fun _ _ _ h => h) (by kernel_rfl) hClosed (Or.inl ⟨by rfl, ?_⟩) hHeld (fun hClosed => ?_)
            rotate_left
            · intro wv hSw; go_simp; all_goals (with_reducible rfl)
            (try simp only [List.getElem_toArray, List.getElem_cons_succ, List.getElem_cons_zero, put_at, List.set])
            refine wpAnyL_take (i := 15) (v := ?_) rfl (by kernel_rfl) (by kernel_rfl) (by kernel_rfl) (by kernel_rfl) (fun _ _ _ h => h) (by kernel_rfl) hClosed (Or.inl ⟨by rfl, ?_⟩) hHeld (fun hClosed => ?_)
            rotate_left
            · intro wv hSw; go_simp; all_goals (with_reducible rfl)
            (try simp only [List.getElem_toArray, List.getElem_cons_succ, List.getElem_cons_zero, put_at, List.set])
            refine wpAnyL_take (i := 16) (v := ?_) rfl (by kernel_rfl) (by kernel_rfl) (by kernel_rfl) (by kernel_rfl) (fun _ _ _ h => h) (by kernel_rfl) hClosed (Or.inl ⟨by rfl, ?_⟩) hHeld (fun hClosed => ?_)
            rotate_left
            · intro wv hSw; go_simp; all_goals (with_reducible rfl)
            (try simp only [List.getElem_toArray, List.getElem_cons_succ, List.getElem_cons_zero, put_at, List.set])
            refine wpAnyL_take (i := 18) (v := ?_) rfl (by kernel_rfl) (by kernel_rfl) (by kernel_rfl) (by kernel_rfl) (fun _ _ _ h => h) (by kernel_rfl) hClosed (Or.inl ⟨by rfl, ?_⟩) hHeld (fun hClosed => ?_)
            rotate_left
            · intro wv hSw; go_simp; all_goals (with_reducible rfl)
            (try simp only [List.getElem_toArray, List.getElem_cons_succ, List.getElem_cons_zero, put_at, List.set])
            refine wpAnyL_take (i := 19) (v := ?_) rfl (by kernel_rfl) (by kernel_rfl) (by kernel_rfl) (by kernel_rfl) (fun _ _ _ h => h) (by kernel_rfl) hClosed (Or.inl ⟨by rfl, ?_⟩) hHeld (fun hClosed => ?_)
            rotate_left
            · intro wv hSw; go_simp; all_goals (with_reducible rfl)
            (try simp only [List.getElem_toArray, List.getElem_cons_succ, List.getElem_cons_zero, put_at, List.set])
            refine wpAnyL_one (i := 17) rfl (by kernel_rfl) (by kernel_rfl) hClosed (fun KK hK => ?_)
            go_simp
            refine (LE.out _ (HS4.out.later hHeld)).mono ?_
            rintro e w8 ⟨rfl, hw8⟩
            subst hw8
            go_wp2_with fail
            refine hK.out _ _ ?_ (fun hClosed hHeld => ?_)
            · exact hHeld
            clear hK KK
            (first | simp only [List.getElem_toArray, List.getElem_cons_succ, List.getElem_cons_zero, put_at, List.set] | (try simp only [put_at, List.set]))
            refine wpAnyL_take (i := 20) (v := ?_) rfl (by kernel_rfl) (by kernel_rfl) (by kernel_rfl) (by kernel_rfl) (fun _ _ _ h => h) (by kernel_rfl) hClosed (Or.inl ⟨by rfl, ?_⟩) hHeld (fun hClosed => ?_)
            rotate_left
            · intro wv hSw; go_simp; all_goals (with_reducible rfl)
            (try simp only [List.getElem_toArray, List.getElem_cons_succ, List.getElem_cons_zero, put_at, List.set])
            refine wpAnyL_take (i := 21) (v := ?_) rfl (by kernel_rfl) (by kernel_rfl) (by kernel_rfl) (by kernel_rfl) (fun _ _ _ h => h) (by kernel_rfl) hClosed (Or.inl ⟨by rfl, ?_⟩) hHeld (fun hClosed => ?_)
            rotate_left
            · intro wv hSw; go_simp; all_goals (with_reducible rfl)
            (try simp only [List.getElem_toArray, List.getElem_cons_succ, List.getElem_cons_zero, put_at, List.set])
            refine wpAnyL_take (i := 22) (v := ?_) rfl (by kernel_rfl) (by kernel_rfl) (by kernel_rfl) (by kernel_rfl) (fun _ _ _ h => h) (by kernel_rfl) hClosed (Or.inl ⟨by rfl, ?_⟩) hHeld (fun hClosed => ?_)
            rotate_left
            · intro wv hSw; go_simp; all_goals (with_reducible rfl)
            (try simp only [List.getElem_toArray, List.getElem_cons_succ, List.getElem_cons_zero, put_at, List.set])
            refine wpAnyL_take (i := 23) (v := ?_) rfl (by kernel_rfl) (by kernel_rfl) (by kernel_rfl) (by kernel_rfl) (fun _ _ _ h => h) (by kernel_rfl) hClosed (Or.inl ⟨by rfl, ?_⟩) hHeld (fun hClosed => ?_)
            rotate_left
            · intro wv hSw; go_simp; all_goals (with_reducible rfl)
            (try simp only [List.getElem_toArray, List.getElem_cons_succ, List.getElem_cons_zero, put_at, List.set])
            refine wpAnyL_take (i := 25) (v := ?_) rfl (by kernel_rfl) (by kernel_rfl) (by kernel_rfl) (by kernel_rfl) (fun _ _ _ h => h) (by kernel_rfl) hClosed (Or.inl ⟨by rfl, ?_⟩) hHeld (fun hClosed => ?_)
            rotate_left
            · intro wv hSw; go_simp; all_goals (with_reducible rfl)
            (try simp only [List.getElem_toArray, List.getElem_cons_succ, List.getElem_cons_zero, put_at, List.set])
            refine wpAnyL_one (i := 24) rfl (by kernel_rfl) (by kernel_rfl) hClosed (fun KK hK => ?_)
            go_simp
            refine (AL.out _ (HS4.out.later hHeld)).mono ?_
            rintro e w9 ⟨a9, c9, rfl, R9, B9⟩
            go_wp2_with fail
            refine hK.out _ _ ?_ (fun hClosed hHeld => ?_)
            · exact hHeld.trans (B9.out.mono hHeld.size)
            clear hK KK
            (first | simp only [List.getElem_toArray, List.getElem_cons_succ, List.getElem_cons_zero, put_at, List.set] | (try simp only [put_at, List.set]))
            refine wpAnyL_one (i := 26) rfl (by kernel_rfl) (by kernel_rfl) hClosed (fun KK hK => ?_)
            go_simp
            refine (RE.out _ a9 c9 (HS4.out.later hHeld) R9.out).mono ?_
            rintro e w10 ⟨rfl, HS7, B10⟩
            go_wp2_with fail
            refine hK.out _ _ ?_ (fun hClosed hHeld => ?_)
            · exact hHeld.trans (B10.out.mono hHeld.size)
            clear hK KK
            (first | simp only [List.getElem_toArray, List.getElem_cons_succ, List.getElem_cons_zero, put_at, List.set] | (try simp only [put_at, List.set]))
            refine wpAnyL_take (i := 27) (v := ?_) rfl (by kernel_rfl) (by kernel_rfl) (by kernel_rfl) (by kernel_rfl) (fun _ _ _ h => h) (by kernel_rfl) hClosed (Or.inl ⟨by rfl, ?_⟩) hHeld (fun hClosed => ?_)
            rotate_left
            · intro wv hSw; go_simp; all_goals (with_reducible rfl)
            (try simp only [List.getElem_toArray, List.getElem_cons_succ, List.getElem_cons_zero, put_at, List.set])
            refine wpAnyL_last rfl (by kernel_rfl) (by kernel_rfl) (fun KK hK => ?_)
            go_simp
            refine hK.out _ _ ?_
            (try simp only [put_at, List.set])
            go_wp2
            go_meet
            exact ⟨rfl, HS7⟩
        case rest =>
          obtain ⟨rfl, HS5⟩ := hcut
          clear HS4 BNZ
          go_wp2
          go_roundw
          case rel => exact ⟨i + 1, n2, qa2, qc2, rs2, ra2, rc2, by omega, by omega, by omega, rfl, by go_num, HS5⟩
          case measure => exact ms_plays 80 i (by omega)
    · have AWX := Lib.hid (HS.out.bel)
      have dd : decide ((i : Int) < (len : Int)) = false ∨ (decide ((i : Int) < (len : Int)) = true ∧ decide ((i : Int) < 80) = false) := by
        by_cases h1 : i < len
        · exact Or.inr ⟨decide_eq_true (by omega), decide_eq_false (by omega)⟩
        · exact Or.inl (decide_eq_false (by omega))
      clear HS HA HAC
      rcases dd with d1 | ⟨d1, d2⟩
      · have p1 : ¬ i < len := by have := of_decide_eq_false d1; omega
        have d1n : decide (i < len) = false := decide_eq_false p1
        go_wp2_with fail
        refine (AW.out _).mono ?_
        rintro e w6 ⟨rfl, b6⟩
        have B6 := Lib.hid (AWX.out.trans (b6.mono AWX.out.size))
        clear b6
        go_wp2
        go_ret
        exact ⟨rfl, B6.out⟩
      · have p1 : i < len := by have := of_decide_eq_true d1; omega
        have d1n : decide (i < len) = true := decide_eq_true p1
        have p2 : ¬ i < 80 := by have := of_decide_eq_false d2; omega
        have d2n : decide (i < 80) = false := decide_eq_false p2
        go_wp2_with fail
        refine (AW.out _).mono ?_
        rintro e w6 ⟨rfl, b6⟩
        have B6 := Lib.hid (AWX.out.trans (b6.mono AWX.out.size))
        clear b6
        go_wp2
        go_ret
        exact ⟨rfl, B6.out⟩
theorem queuePlays_walk (most : Int) (x : Option Addr × Nat × Nat) (w : World) (wm : (Lit.int .i64 most).wf = true) (hx : IsActs w x) :
    Calls Try.prog 3 #[.int .i64 most, .slice x.1 x.2.1 x.2.2] w fun e w' => e = .returned (.bool true) ∧ Below w.heap.size w w' := by
  obtain ⟨b, off, h1, h2, h3⟩ := hx
  exact queuePlays_w most x.1 x.2.1 x.2.2 b off w h2 h1 h3
end Go.Proofs.Ytbifnmlhbepadaa
