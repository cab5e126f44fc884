/- QueueOrder, walked. -/
import Derived.Test.YtbifnmlhbepadaaQuAwk
import Derived.Test.YtbifnmlhbepadaaFrame
namespace Go.Proofs.Ytbifnmlhbepadaa
open Go Go.RowKit
set_option linter.unusedVariables false
set_option linter.unusedSimpArgs false
set_option maxRecDepth 10000

theorem qu_bytes {w : World} {a : Option Addr} {len cap : Nat} {zs : List Int} (h : IsRow .u8 w a len cap zs) :
    ∃ b off, (0 < len → a = some ⟨b, off, none⟩) ∧ len ≤ maxLen ∧ ∀ k, k < len → w.cell? ⟨b, off + k, none⟩ = some (.int .u8 (zs.getD k 0)) ∧ 0 ≤ zs.getD k 0 ∧ zs.getD k 0 ≤ 255 := by
  rcases h with ⟨rfl, rfl, rfl, rfl⟩ | ⟨x, rfl, hlc, hcm, hz, hcell, hwf⟩
  · exact ⟨0, 0, fun h => absurd h (by decide), by decide, fun k h => absurd h (Nat.not_lt_zero k)⟩
  · by_cases hl : 0 < zs.length
    · obtain ⟨b, off, rfl, hc⟩ := ints_at hcell hl
      refine ⟨b, off, fun _ => rfl, by omega, fun k hk => ⟨hc k (by omega), ?_⟩⟩
      have h0 : k < zs.length := by omega
      have h1 := hwf zs[k] (List.getElem_mem h0)
      simp [Lit.wf, IntKind.min, IntKind.max, IntKind.signed, IntKind.bits] at h1
      rw [List.getD_eq_getElem?_getD, List.getElem?_eq_getElem h0, Option.getD_some]
      omega
    · exact ⟨0, 0, fun h => absurd h (by omega), by omega, fun k h => absurd h (by omega)⟩
def Dst (rs : List Rq) : Prop := rs.Pairwise fun a b => a.id ≠ b.id
theorem dst_ins {rs : List Rq} {r : Rq} (h : Dst rs) (hid : ∀ x ∈ rs, x.id ≠ r.id) : Dst (insQ rs r) := by
  unfold insQ Dst
  have h0 : (rs.take (posQ rs r) ++ rs.drop (posQ rs r)).Pairwise fun a b => a.id ≠ b.id := by rw [List.take_append_drop]; exact h
  obtain ⟨h1, h2, h3⟩ := List.pairwise_append.1 h0
  refine List.pairwise_append.2 ⟨h1, List.pairwise_cons.2 ⟨fun y hy => fun e => hid y (List.mem_of_mem_drop hy) e.symm, h2⟩, fun x hx y hy => ?_⟩
  rcases List.mem_cons.1 hy with rfl | hy
  · exact hid x (List.mem_of_mem_take hx)
  · exact h3 x hx y hy
theorem Qm.set {w : World} {B q cap LB : Nat} {a : Option Addr} {rs : List Rq} {most : Int} (h : Qm w B q a cap rs most) (hap : ∀ k, MineQ q a k → k ≠ LB) (j : Nat) (u : Value) : Qm (w.setCell ⟨LB, j, none⟩ u) B q a cap rs most :=
  ⟨h.box.other (hap q (Or.inl rfl)) u, h.own.other (fun g hg => hap g (Or.inr hg)) u, h.qB⟩
/-- What stands while requests come in. -/
structure QoS (w wr : World) (q : Nat) (a : Option Addr) (cap : Nat) (rs : List Rq) (i : Nat) : Prop where
  qm : Qm wr w.heap.size q a cap rs 200
  bel : Below w.heap.size w wr
  srt : Srt rs
  dst : Dst rs
  ids : ∀ x ∈ rs, 1 ≤ x.id ∧ x.id ≤ (i : Int) ∧ 0 ≤ x.prio
/-- What stands while they go. -/
structure QoT (w wr : World) (q LB : Nat) (a : Option Addr) (cap : Nat) (rs : List Rq) (l : Rq) : Prop where
  qm : Qm wr w.heap.size q a cap rs 200
  bel : Below w.heap.size w wr
  srt : Srt rs
  dst : Dst rs
  box : Box wr LB (rqA l) 27
  ap : ∀ k, MineQ q a k → k ≠ LB
  lB : w.heap.size ≤ LB
  lst : ∀ x ∈ rs, l.prio ≤ x.prio ∧ ¬ (x.prio = l.prio ∧ x.id < l.id)
set_option maxHeartbeats 8000000 in
theorem queueOrder_walk (a : Option Addr) (len cap : Nat) (zs : List Int) (w : World) (hrow : IsRow .u8 w a len cap zs) :
    Calls Try.prog 4 #[.slice a len cap] w fun e w' => e = .returned (.bool true) ∧ Below w.heap.size w w' := by
  obtain ⟨b, off, ha, hlm, hc⟩ := qu_bytes hrow
  unfold maxLen at hlm
  have HA := Lib.hid ha
  have HC := Lib.hid hc
  have AW := Lib.hid (fun W => awake16 W)
  clear ha hc hrow
  go_enter Try.func4, Try.ntmps4
  go_wp2_with fail
  refine (new_at 200 w w.heap.size (Nat.le_refl _)).mono ?_
  rintro e w1 ⟨rfl, q1, b1⟩
  have Q1 := Lib.hid q1
  have B1 := Lib.hid b1
  obtain ⟨q, hq⟩ : ∃ q, w.heap.size = q := ⟨_, rfl⟩
  have HQ : Hid (q = w.heap.size) := Lib.hid hq.symm
  have QS0 : Hid (QoS w w1 q none 0 [] 0) := Lib.hid ⟨by rw [hq] at q1 ⊢; exact q1, b1, List.Pairwise.nil, List.Pairwise.nil, fun x hx => by cases hx⟩
  rw [hq]
  clear q1 b1 Q1 hq
  go_upto_if 16 with fail
  go_cut [4] from 17 to 17 (fun v wx => ∃ N : Nat, v = .int .i64 (N : Int) ∧ N ≤ 80 ∧ N ≤ len ∧ wx = w1)
  case first =>
    by_cases h80 : 80 < len
    · have d1 : decide ((80 : Int) < (len : Int)) = true := decide_eq_true (by omega)
      go_wp2
      go_meet
      exact ⟨80, rfl, by omega, by omega, rfl⟩
    · have d1 : decide ((80 : Int) < (len : Int)) = false := decide_eq_false (by omega)
      go_wp2
      go_meet
      exact ⟨len, rfl, by omega, by omega, rfl⟩
  case rest =>
    obtain ⟨N, rfl, hN1, hN2, rfl⟩ := hcut
    go_wp2_with fail
    go_loopw [5] (fun j wr => ∃ (i : Nat) (qa : Option Addr) (qc : Nat) (rs : List Rq), i ≤ N ∧ j = .int .i64 (i : Int) ∧ rs.length = i ∧ Hid (QoS w wr q qa qc rs i)) (fun j _ => N - (intOf j).toNat)
    case atStart => exact ⟨0, none, 0, [], by omega, rfl, rfl, QS0⟩
    case round =>
      obtain ⟨i, qa, qc, rs, hi, rfl, hlen, HS⟩ := hrel
      have HLEN := Lib.hid hlen
      clear hlen
      obtain ⟨wo, rfl⟩ : ∃ W, W = wr := ⟨_, rfl⟩
      by_cases hlt : i < N
      · have hkd : decide ((i : Int) < (N : Int)) = true := decide_eq_true (by omega)
        have ha := HA.out (by omega)
        subst ha
        obtain ⟨e0, z0, z1⟩ := HC.out i (by omega)
        have c0 := (HS.out.bel.cell (World.block_lt_of_cell? _ _ e0)).trans e0
        obtain ⟨z, hz⟩ : ∃ z, zs.getD i 0 = z := ⟨_, rfl⟩
        rw [hz] at c0 z0 z1
        have hx0 : (0 : Int) ≤ (i : Int) := by omega
        have hx1 : (i : Int) < (len : Int) := by omega
        obtain ⟨pv, hpv, hp0, hp1⟩ : ∃ pv, z.tmod 8 = pv ∧ 0 ≤ pv ∧ pv ≤ 7 := ⟨_, rfl, by rw [Int.tmod_eq_emod_of_nonneg z0]; omega, by rw [Int.tmod_eq_emod_of_nonneg z0]; omega⟩
        have hid : ∀ x ∈ rs, x.id ≠ ((i : Int) + 1) := fun x hx => by have := HS.out.ids x hx; omega
        have PU := Lib.hid (push_at HS.out.qm HS.out.srt i HLEN.out (by omega) HS.out.bel.size ⟨(i : Int) + 1, ⟨#[]⟩, ⟨#[]⟩, pv, 0⟩)
        unfold rqA at PU
        dsimp only at PU
        have NX : Hid (∀ a' c' w', Qm w' w.heap.size q a' c' (insQ rs ⟨(i : Int) + 1, ⟨#[]⟩, ⟨#[]⟩, pv, 0⟩) 200 → TurnQ q qa wo a' w' → QoS w w' q a' c' (insQ rs ⟨(i : Int) + 1, ⟨#[]⟩, ⟨#[]⟩, pv, 0⟩) (i + 1)) := Lib.hid (fun a' c' w' h1 h2 =>
          ⟨h1, HS.out.bel.trans (HS.out.qm.turn h2 HS.out.bel.size), srt_ins HS.out.srt hid, dst_ins HS.out.dst hid, fun x hx => by
            rcases insQ_mem.1 hx with rfl | hx
            · dsimp only; omega
            · have := HS.out.ids x hx; omega⟩)
        have NO : Hid (rs.any (idB ((i : Int) + 1)) = false) := Lib.hid (by
          rw [List.any_eq_false]
          intro x hx h
          exact hid x hx (of_decide_eq_true h))
        clear e0 hz hid
        go_wp2_with fail
        refine PU.out.mono ?_
        rintro e w2 (⟨h, _⟩ | ⟨_, h, _⟩ | ⟨_, _, rfl, a2, c2, q2, t2⟩)
        · have := NO.out
          dsimp only at h
          rw [h] at this
          cases this
        · have := HLEN.out; omega
        have QN := Lib.hid (NX.out _ _ _ q2 t2)
        clear q2 t2 PU NX NO HS c0
        go_wp2
        go_roundw
        case rel => exact ⟨i + 1, a2, c2, _, by omega, by go_num, by rw [insQ_len, HLEN.out], QN⟩
        case measure =>
          simp only [intOf]
          omega
      · have hkd : decide ((i : Int) < (N : Int)) = false := decide_eq_false (by omega)
        obtain rfl : i = N := by omega
        have szo := HS.out.bel.size
        have BL := Lib.hid (Box.new wo (rqA ⟨0, ⟨#[]⟩, ⟨#[]⟩, -1, 0⟩) 27)
        have WL := Lib.hid ((Below.refl wo.heap.size wo).alloc (Nat.le_refl _) (.cells (rqA ⟨0, ⟨#[]⟩, ⟨#[]⟩, -1, 0⟩) 27))
        have QT0 : Hid (QoT w (wo.alloc (.cells (rqA ⟨0, ⟨#[]⟩, ⟨#[]⟩, -1, 0⟩) 27)) q wo.heap.size qa qc rs ⟨0, ⟨#[]⟩, ⟨#[]⟩, -1, 0⟩) := Lib.hid
          ⟨HS.out.qm.later WL.out, HS.out.bel.trans (WL.out.mono szo), HS.out.srt, HS.out.dst, BL.out, fun k hk => by
            rcases hk with rfl | hk
            · have := HS.out.qm.box.lt; omega
            · have := (own_lt HS.out.qm.own hk).1; omega, szo, fun x hx => by have := HS.out.ids x hx; dsimp only; omega⟩
        unfold rqA at QT0
        dsimp only at QT0
        go_upto_region 11 with fail
        obtain ⟨wl, hwl⟩ : ∃ W, wo.alloc (.cells #[.int .i64 0, .string ⟨#[]⟩, .string ⟨#[]⟩, .int .i64 (-1), .int .i64 0] 27) = W := ⟨_, rfl⟩
        rw [hwl] at QT0
        rw [hwl]
        obtain ⟨LB, hLB⟩ : ∃ LB, wo.heap.size = LB := ⟨_, rfl⟩
        rw [hLB] at QT0
        rw [hLB]
        clear hwl HS BL WL szo hLB
        go_wp2_with fail
        go_loopw [7, 8, 9] (fun j _ _ wr => ∃ (k : Nat) (ka : Option Addr) (kc : Nat) (ks : List Rq) (l : Rq), k ≤ i ∧ j = .int .i64 (k : Int) ∧ Hid (ks.length + k = i) ∧ Hid (QoT w wr q LB ka kc ks l)) (fun j _ _ _ => i - (intOf j).toNat)
        case atStart => exact ⟨0, qa, qc, rs, _, by omega, rfl, Lib.hid (by have := HLEN.out; omega), QT0⟩
        case round =>
          obtain ⟨k, ka, kc, ks, l, hk, rfl, HK, HT⟩ := hrel
          clear QT0
          obtain ⟨wa, rfl⟩ : ∃ W, W = wr := ⟨_, rfl⟩
          have FI := Lib.hid (first_at HT.out.qm)
          by_cases hkt : k < i
          · have hke : decide ((k : Int) < (i : Int)) = true := decide_eq_true (by omega)
            obtain ⟨x, t, rfl⟩ : ∃ x t, ks = x :: t := by
              cases ks with
              | nil => have := HK.out; simp at this; omega
              | cons x t => exact ⟨x, t, rfl⟩
            have hlst := HT.out.lst x List.mem_cons_self
            have hsrt := List.pairwise_cons.1 HT.out.srt
            have hdst := List.pairwise_cons.1 HT.out.dst
            have HFL : Hid ((x :: t).filter (fun y => !idB x.id y) = t) := Lib.hid (by
              rw [List.filter_cons, show (!idB x.id x) = false from by simp [idB], if_neg Bool.false_ne_true, List.filter_eq_self]
              intro y hy
              have := hdst.1 y hy
              simp [idB]
              exact fun e => this e.symm)
            have HAN : Hid ((x :: t).any (idB x.id) = true) := Lib.hid (by simp [idB])
            have HNL : Hid (∀ y ∈ t, x.prio ≤ y.prio ∧ ¬ (y.prio = x.prio ∧ y.id < x.id)) := Lib.hid (fun y hy => by
              have := hsrt.1 y hy
              unfold Bef at this
              omega)
            have HS2 := Lib.hid hsrt.2
            have HD2 := Lib.hid hdst.2
            obtain ⟨n, hn⟩ : ∃ n, (x :: t).length = n := ⟨_, rfl⟩
            have hn2 : n ≤ 80 := by have := HK.out; omega
            have DR := Lib.hid (fun W (hW : Below wa.heap.size wa W) => drop_at (HT.out.qm.later hW) n hn (by omega) (Nat.le_trans HT.out.bel.size hW.size) x.id)
            have HK2 : Hid (t.length + (k + 1) = i) := Lib.hid (by have := HK.out; simp at this; omega)
            have FI2 : Hid (Calls Try.prog 17 #[.pointer (some ⟨q, 0, none⟩)] wa fun e w' => e = .returned (.tuple #[.agg (rqA x), .bool true]) ∧ Below wa.heap.size wa w') := Lib.hid FI.out
            have LBX := Lib.hid HT.out.box
            unfold rqA at FI2 LBX
            have lqa := HT.out.qm.box.lt
            have lLB := HT.out.box.lt
            have hap := HT.out.ap
            have hLBq : q ≠ LB := hap q (Or.inl rfl)
            have BW := Lib.hid HT.out.bel
            have llB := HT.out.lB
            have HAP := Lib.hid hap
            clear hap FI hsrt hdst hn
            obtain ⟨xi, xh, xp, xr, xt⟩ := x
            obtain ⟨li, lh, lp, lr, lt⟩ := l
            dsimp only at hlst FI2 LBX DR
            go_wp2_with fail
            refine FI2.out.mono ?_
            rintro e w3 ⟨rfl, b3⟩
            have A3 := Lib.hid (b3.alloc b3.size (.cells #[.int .i64 xi, .string xh, .string xp, .int .i64 xr, .int .i64 xt] 27))
            have XB := Lib.hid (Box.new w3 #[.int .i64 xi, .string xh, .string xp, .int .i64 xr, .int .i64 xt] 27)
            have sz3 := b3.size
            clear b3 FI2
            go_upto_region 15 with fail
            obtain ⟨w4, hw4⟩ : ∃ W, w3.alloc (.cells #[.int .i64 xi, .string xh, .string xp, .int .i64 xr, .int .i64 xt] 27) = W := ⟨_, rfl⟩
            rw [hw4] at A3 XB
            rw [hw4]
            clear hw4
            obtain ⟨XX, hXX⟩ : ∃ XX, w3.heap.size = XX := ⟨_, rfl⟩
            rw [hXX] at XB
            rw [hXX]
            have hXL : LB < XX := by omega
            have hwX : wa.heap.size ≤ XX := by omega
            have hXq : q < XX := by omega
            have L4 := LBX.out.later A3.out
            have y0 := XB.out.cell 0
            have y3 := XB.out.cell 3
            have l0 := L4.cell 0
            have l3 := L4.cell 3
            have lx := XB.out.lt
            have ll := L4.lt
            have LB4 := Lib.hid L4
            have DR4 := Lib.hid (DR.out w4 A3.out)
            clear L4 DR LBX hXX
            have d1 : decide (xr < lr) = false := decide_eq_false (by omega)
            have p1 : ¬ xr < lr := by omega
            have FINISH : True := trivial
            clear FINISH
            by_cases hpe : xr = lr
            · have d3 : decide (xi < li) = false := decide_eq_false (fun h => hlst.2 ⟨hpe, h⟩)
              have p3 : ¬ xi < li := fun h => hlst.2 ⟨hpe, h⟩
              subst hpe
              clear hlst
              go_wp2_with fail
              refine DR4.out.mono ?_
              rintro e w5 ⟨rfl, a5, c5, q5, t5⟩
              rw [HAN.out]
              have X5 : Hid (Box w5 XX #[.int .i64 xi, .string xh, .string xp, .int .i64 xr, .int .i64 xt] 27) := Lib.hid (XB.out.only t5.1 (fun h => by
                rcases h with h | h
                · omega
                · have := (own_lt HT.out.qm.own h).1; omega))
              have L5 : Hid (Box w5 LB #[.int .i64 li, .string lh, .string lp, .int .i64 xr, .int .i64 lt] 27) := Lib.hid (LB4.out.only t5.1 (fun h => HAP.out LB h rfl))
              have AP5 : Hid (∀ k, MineQ q a5 k → k ≠ LB) := Lib.hid (fun k hk => by
                rcases hk with hk | hk
                · rw [hk]; exact hLBq
                · rcases t5.2 k hk with h | h
                  · exact HAP.out k (Or.inr h)
                  · omega)
              have SZ5 : w.heap.size ≤ w4.heap.size := Nat.le_trans BW.out.size A3.out.size
              have B5 : Hid (Below w.heap.size w w5) := Lib.hid ((BW.out.trans (A3.out.mono BW.out.size)).trans ((HT.out.qm.later A3.out).turn t5 SZ5))
              have Q5 : Hid (Qm w5 w.heap.size q a5 c5 t 200) := Lib.hid (by rw [HFL.out] at q5; exact q5)
              have z0 := X5.out.cell 0
              have z1 := X5.out.cell 1
              have z2 := X5.out.cell 2
              have z3 := X5.out.cell 3
              have z4 := X5.out.cell 4
              have lz := X5.out.lt
              have u0 := L5.out.cell 0
              have u1 := L5.out.cell 1
              have u2 := L5.out.cell 2
              have u3 := L5.out.cell 3
              have u4 := L5.out.cell 4
              have v0 := L5.out.free 0
              have v1 := L5.out.free 1
              have v2 := L5.out.free 2
              have v3 := L5.out.free 3
              have v4 := L5.out.free 4
              have lu := L5.out.lt
              have hne : ¬ XX = LB := by omega
              have NX : Hid (QoT w (((((w5.setCell ⟨LB, 0, none⟩ (.int .i64 xi)).setCell ⟨LB, 1, none⟩ (.string xh)).setCell ⟨LB, 2, none⟩ (.string xp)).setCell ⟨LB, 3, none⟩ (.int .i64 xr)).setCell ⟨LB, 4, none⟩ (.int .i64 xt)) q LB a5 c5 t ⟨xi, xh, xp, xr, xt⟩) := Lib.hid
                ⟨((((Q5.out.set AP5.out 0 _).set AP5.out 1 _).set AP5.out 2 _).set AP5.out 3 _).set AP5.out 4 _,
                 ((((B5.out.setCell (p := ⟨LB, 0, none⟩) llB _).setCell (p := ⟨LB, 1, none⟩) llB _).setCell (p := ⟨LB, 2, none⟩) llB _).setCell (p := ⟨LB, 3, none⟩) llB _).setCell (p := ⟨LB, 4, none⟩) llB _,
                 HS2.out, HD2.out, by simpa [rqA] using ((((L5.out.set 0 (.int .i64 xi)).set 1 (.string xh)).set 2 (.string xp)).set 3 (.int .i64 xr)).set 4 (.int .i64 xt), AP5.out, llB, HNL.out⟩
              clear X5 L5 Q5 B5 AP5 q5 t5 HT DR4 LB4 XB A3 HS2 HD2 HNL HFL HAN HK y0 y3 l0 l3 lx ll
              go_wp2
              go_roundw
              case rel => exact ⟨k + 1, a5, c5, t, _, by omega, by go_num, HK2, NX⟩
              case measure =>
                simp only [intOf]
                omega
            · have d2 : (xr == lr) = false := beq_eq_false_iff_ne.2 hpe
              clear hlst
              go_wp2_with fail
              refine DR4.out.mono ?_
              rintro e w5 ⟨rfl, a5, c5, q5, t5⟩
              rw [HAN.out]
              have X5 : Hid (Box w5 XX #[.int .i64 xi, .string xh, .string xp, .int .i64 xr, .int .i64 xt] 27) := Lib.hid (XB.out.only t5.1 (fun h => by
                rcases h with h | h
                · omega
                · have := (own_lt HT.out.qm.own h).1; omega))
              have L5 : Hid (Box w5 LB #[.int .i64 li, .string lh, .string lp, .int .i64 lr, .int .i64 lt] 27) := Lib.hid (LB4.out.only t5.1 (fun h => HAP.out LB h rfl))
              have AP5 : Hid (∀ k, MineQ q a5 k → k ≠ LB) := Lib.hid (fun k hk => by
                rcases hk with hk | hk
                · rw [hk]; exact hLBq
                · rcases t5.2 k hk with h | h
                  · exact HAP.out k (Or.inr h)
                  · omega)
              have SZ5 : w.heap.size ≤ w4.heap.size := Nat.le_trans BW.out.size A3.out.size
              have B5 : Hid (Below w.heap.size w w5) := Lib.hid ((BW.out.trans (A3.out.mono BW.out.size)).trans ((HT.out.qm.later A3.out).turn t5 SZ5))
              have Q5 : Hid (Qm w5 w.heap.size q a5 c5 t 200) := Lib.hid (by rw [HFL.out] at q5; exact q5)
              have z0 := X5.out.cell 0
              have z1 := X5.out.cell 1
              have z2 := X5.out.cell 2
              have z3 := X5.out.cell 3
              have z4 := X5.out.cell 4
              have lz := X5.out.lt
              have u0 := L5.out.cell 0
              have u1 := L5.out.cell 1
              have u2 := L5.out.cell 2
              have u3 := L5.out.cell 3
              have u4 := L5.out.cell 4
              have v0 := L5.out.free 0
              have v1 := L5.out.free 1
              have v2 := L5.out.free 2
              have v3 := L5.out.free 3
              have v4 := L5.out.free 4
              have lu := L5.out.lt
              have hne : ¬ XX = LB := by omega
              have NX : Hid (QoT w (((((w5.setCell ⟨LB, 0, none⟩ (.int .i64 xi)).setCell ⟨LB, 1, none⟩ (.string xh)).setCell ⟨LB, 2, none⟩ (.string xp)).setCell ⟨LB, 3, none⟩ (.int .i64 xr)).setCell ⟨LB, 4, none⟩ (.int .i64 xt)) q LB a5 c5 t ⟨xi, xh, xp, xr, xt⟩) := Lib.hid
                ⟨((((Q5.out.set AP5.out 0 _).set AP5.out 1 _).set AP5.out 2 _).set AP5.out 3 _).set AP5.out 4 _,
                 ((((B5.out.setCell (p := ⟨LB, 0, none⟩) llB _).setCell (p := ⟨LB, 1, none⟩) llB _).setCell (p := ⟨LB, 2, none⟩) llB _).setCell (p := ⟨LB, 3, none⟩) llB _).setCell (p := ⟨LB, 4, none⟩) llB _,
                 HS2.out, HD2.out, by simpa [rqA] using ((((L5.out.set 0 (.int .i64 xi)).set 1 (.string xh)).set 2 (.string xp)).set 3 (.int .i64 xr)).set 4 (.int .i64 xt), AP5.out, llB, HNL.out⟩
              clear X5 L5 Q5 B5 AP5 q5 t5 HT DR4 LB4 XB A3 HS2 HD2 HNL HFL HAN HK y0 y3 l0 l3 lx ll
              go_wp2
              go_roundw
              case rel => exact ⟨k + 1, a5, c5, t, _, by omega, by go_num, HK2, NX⟩
              case measure =>
                simp only [intOf]
                omega
          · have hke : decide ((k : Int) < (i : Int)) = false := decide_eq_false (by omega)
            obtain rfl : ks = [] := List.eq_nil_of_length_eq_zero (by have := HK.out; omega)
            have FI2 : Hid (Calls Try.prog 17 #[.pointer (some ⟨q, 0, none⟩)] wa fun e w' => e = .returned (.tuple #[.agg #[.int .i64 0, .string ⟨#[]⟩, .string ⟨#[]⟩, .int .i64 0, .int .i64 0], .bool false]) ∧ Below wa.heap.size wa w') := Lib.hid FI.out
            have BW := Lib.hid HT.out.bel
            clear FI HT
            go_wp2_with fail
            refine FI2.out.mono ?_
            rintro e w3 ⟨rfl, b3⟩
            have B3 := Lib.hid (BW.out.trans (b3.mono BW.out.size))
            have sz3 := B3.out.size
            have B4 := Lib.hid (B3.out.alloc sz3 (.cells #[.int .i64 0, .string ⟨#[]⟩, .string ⟨#[]⟩, .int .i64 0, .int .i64 0] 27))
            clear b3
            go_upto_region 19 with fail
            obtain ⟨w4, hw4⟩ : ∃ W, w3.alloc (.cells #[.int .i64 0, .string ⟨#[]⟩, .string ⟨#[]⟩, .int .i64 0, .int .i64 0] 27) = W := ⟨_, rfl⟩
            rw [hw4] at B4
            rw [hw4]
            clear hw4
            go_wp2_with fail
            refine (AW.out _).mono ?_
            rintro e w5 ⟨rfl, b5⟩
            have B5 := Lib.hid (B4.out.trans (b5.mono B4.out.size))
            clear b5
            go_wp2
            go_ret
            exact ⟨rfl, B5.out⟩
end Go.Proofs.Ytbifnmlhbepadaa
