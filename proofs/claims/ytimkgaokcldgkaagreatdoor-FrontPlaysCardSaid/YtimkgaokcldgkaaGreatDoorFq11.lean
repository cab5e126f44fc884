/- Part of a chain: QuBin. -/
import Derived.Test.YtimkgaokcldgkaaGreatDoorFq10
import Derived.StillTailTactics
/- Package queue: where a request stands: the library's BinarySearchFunc. -/
namespace Go.Proofs.YtimkgaokcldgkaaGreatDoor
open Go Go.RowKit
set_option linter.unusedVariables false
set_option linter.unusedSimpArgs false
set_option maxRecDepth 10000

theorem egO : ∀ args w, (callFunc 74 args).run Tryz.prog w = .ok (.enter 74 args) w := enters_of Tryz.func74 (by kernel_rfl) rfl
theorem qbin_drewN {B : Nat} {a w : World} (h : Below B a w) (n : Nat) : Below B a (w.drewN n) := ⟨h.os, h.tape, h.output, h.size, h.block⟩
set_option maxHeartbeats 4000000 in
theorem bin_at (rs : List Rq) (r : Rq) (hs : Srt rs) (n : Nat) (hn : rs.length = n) (hn2 : n ≤ 1000000) (a : Option Addr) (cap : Nat) (w : World) (hr : RdQu w a rs) :
    Calls Tryz.prog 90 #[.slice a n cap, .agg (rqA r), .func (.func 74) #[] #[]] w fun e w' => (∃ b : Bool, e = .returned (.tuple #[.int .i64 (posQ rs r : Int), .bool b])) ∧ Below w.heap.size w w' := by
  have BX := Lib.hid (Box.new w (rqA r) 35)
  have BB := Lib.hid ((Below.refl w.heap.size w).alloc (Nat.le_refl _) (.cells (rqA r) 35))
  have HR := Lib.hid hr
  have HN := Lib.hid hn
  have SM := Lib.hid (fun (i j : Nat) (x y : Rq) (hij : i ≤ j) (hx : rs[i]? = some x) (hy : rs[j]? = some y) (hb : Bef y r) => srt_mono hs hij hx hy hb)
  have PO := Lib.hid (fun (k : Nat) (hk : k ≤ rs.length) h1 h2 => posQ_of (rs := rs) (r := r) hk h1 h2)
  have OO := Lib.hid (fun (x : Rq) W => order_at x r W)
  have OL := Lib.hid (fun x => ordI_lt x r)
  obtain ⟨pz, hpz⟩ : ∃ p, posQ rs r = p := ⟨_, rfl⟩
  rw [hpz]
  rw [hpz] at PO
  clear hs hr hn hpz
  obtain ⟨ra, hra⟩ : ∃ ra, rqA r = ra := ⟨_, rfl⟩
  rw [hra] at OO BX BB
  rw [hra]
  have HRA : Hid (ra = #[.int .i64 r.id, .string r.host, .string r.path, .int .i64 r.prio, .int .i64 r.til]) := Lib.hid (by rw [← hra]; rfl)
  clear hra
  obtain ⟨ri, rh, rp, rr, rt⟩ := r
  obtain rfl := HRA.out
  clear HRA
  have eg := egO
  go_enter Tryz.func90, Tryz.ntmps90
  go_upto_region 3 with fail
  obtain ⟨w1, hw1⟩ : ∃ W, w.alloc (.cells #[.int .i64 ri, .string rh, .string rp, .int .i64 rr, .int .i64 rt] 35) = W := ⟨_, rfl⟩
  rw [hw1] at BX BB
  rw [hw1]
  clear hw1
  have lT0 := BX.out.lt
  obtain ⟨T, hT⟩ : ∃ T, w.heap.size = T := ⟨_, rfl⟩
  rw [hT] at BX lT0
  rw [hT]
  go_loopw [9, 10, 11] (fun vi vj _ wr => ∃ i j : Nat, i ≤ j ∧ j ≤ n ∧ vi = .int .i64 (i : Int) ∧ vj = .int .i64 (j : Int) ∧ Hid (Below w.heap.size w wr ∧ Below w1.heap.size w1 wr) ∧ Hid (∀ k x, k < i → rs[k]? = some x → Bef x ⟨ri, rh, rp, rr, rt⟩) ∧ Hid (∀ k x, j ≤ k → rs[k]? = some x → ¬ Bef x ⟨ri, rh, rp, rr, rt⟩)) (fun vi vj _ _ => (intOf vj - intOf vi).toNat)
  case atStart => exact ⟨0, n, by omega, by omega, rfl, rfl, Lib.hid ⟨BB.out, Below.refl _ _⟩, Lib.hid (fun k x hk => by omega), Lib.hid (fun k x hk hx => by have := (List.getElem?_eq_some_iff.1 hx).1; have := HN.out; omega)⟩
  case round =>
    obtain ⟨i, j, hij, hjn, rfl, rfl, BP, HI, HJ⟩ := hrel
    have BR := Lib.hid BP.out.1
    have B1 := BX.out.later BP.out.2
    have t0 := B1.cell 0
    have t1 := B1.cell 1
    have t2 := B1.cell 2
    have t3 := B1.cell 3
    have t4 := B1.cell 4
    have lT := B1.lt
    clear B1
    by_cases hlt : i < j
    · have hkd : decide ((i : Int) < (j : Int)) = true := decide_eq_true (by omega)
      obtain ⟨h, hh⟩ : ∃ h, (i + j) / 2 = h := ⟨_, rfl⟩
      have hhi : ((i : Int) + (j : Int)) / 2 = (h : Int) := by omega
      have h1 : i ≤ h := by omega
      have h2 : h < j := by omega
      obtain ⟨x, hx⟩ : ∃ x, rs[h]? = some x := ⟨_, List.getElem?_eq_getElem (by rw [HN.out]; omega)⟩
      obtain ⟨g, hga, cl⟩ := (HR.out.later BR.out) h x hx
      subst hga
      have m0 := cl.c0
      have m1 := cl.c1
      have m2 := cl.c2
      have m3 := cl.c3
      have m4 := cl.c4
      have lg : g < wr.heap.size := World.block_lt_of_cell? _ _ m0
      have OR := Lib.hid (fun W => OO.out x W)
      obtain ⟨v, hv⟩ : ∃ v, ordI x ⟨ri, rh, rp, rr, rt⟩ = v := ⟨_, rfl⟩
      have HVL := OL.out x
      rw [hv] at HVL OR
      obtain ⟨c, hc⟩ : ∃ c : Bool, decide (v < 0) = c := ⟨_, rfl⟩
      have HC := Lib.hid hc
      have NL : Hid (c = true → Hid (∀ k y, k < h + 1 → rs[k]? = some y → Bef y ⟨ri, rh, rp, rr, rt⟩)) := Lib.hid (fun e => Lib.hid (fun k y hk hy => by
        have hb : Bef x ⟨ri, rh, rp, rr, rt⟩ := HVL.1 (of_decide_eq_true (hc.trans e))
        exact SM.out k h y x (by omega) hy hx hb))
      have NR : Hid (c = false → Hid (∀ k y, h ≤ k → rs[k]? = some y → ¬ Bef y ⟨ri, rh, rp, rr, rt⟩)) := Lib.hid (fun e => Lib.hid (fun k y hk hy hb => by
        have hnb : ¬ v < 0 := of_decide_eq_false (hc.trans e)
        exact hnb (HVL.2 (SM.out h k x y hk hx hy hb))))
      obtain ⟨xi, xh, xp, xr, xt⟩ := x
      dsimp only at m0 m1 m2 m3 m4
      have hx0 : (0 : Int) ≤ (h : Int) := by omega
      have hx1 : (h : Int) < (n : Int) := by omega
      have szr := BR.out.size
      have szr1 := BP.out.2.size
      clear cl hx hv hc HVL HR SM PO OO OL BX BB
      go_upto_region 5 with fail
      clear hhi
      refine wp_region_last 7 (fun w' => w'.heap[T]? = wr.heap[T]? ∧ w'.heap[g]? = wr.heap[g]?) (by kernel_rfl) (⟨rfl, rfl⟩) (fun hHeld hClosed => ?_)
      refine wtk (i := 0) (v := ?_) rfl hClosed (Or.inl ⟨by rfl, ?_⟩) hHeld (fun hClosed => ?_)
      rotate_left
      · intro wv hSw; go_simp; all_goals (with_reducible rfl)
      (try simp only [List.getElem_toArray, List.getElem_cons_zero, put_at, List.set])
      refine wtk (i := 1) (v := ?_) rfl hClosed (Or.inl ⟨by rfl, ?_⟩) hHeld (fun hClosed => ?_)
      rotate_left
      · intro wv hSw; go_simp; all_goals (with_reducible rfl)
      (try simp only [List.getElem_toArray, List.getElem_cons_succ, List.getElem_cons_zero, put_at, List.set])
      refine wtk (i := 2) (v := ?_) rfl hClosed (Or.inl ⟨by rfl, ?_⟩) hHeld (fun hClosed => ?_)
      rotate_left
      · intro wv hSw; go_simp; all_goals (with_reducible rfl)
      (try simp only [List.getElem_toArray, List.getElem_cons_succ, List.getElem_cons_zero, put_at, List.set])
      refine wtk (i := 3) (v := ?_) rfl hClosed (Or.inl ⟨by rfl, ?_⟩) hHeld (fun hClosed => ?_)
      rotate_left
      · intro wv hSw; go_simp; all_goals (with_reducible rfl)
      (try simp only [List.getElem_toArray, List.getElem_cons_succ, List.getElem_cons_zero, put_at, List.set])
      refine wtk (i := 4) (v := ?_) rfl hClosed (Or.inl ⟨by rfl, ?_⟩) hHeld (fun hClosed => ?_)
      rotate_left
      · intro wv hSw; have e0 := cell_blk hSw.1 0; rw [t0] at e0; have d0 := cell_blk hSw.2 (h * 5); rw [m0] at d0; have e1 := cell_blk hSw.1 1; rw [t1] at e1; have d1 := cell_blk hSw.2 (h * 5 + 1); rw [m1] at d1; have e2 := cell_blk hSw.1 2; rw [t2] at e2; have d2 := cell_blk hSw.2 (h * 5 + 2); rw [m2] at d2; have e3 := cell_blk hSw.1 3; rw [t3] at e3; have d3 := cell_blk hSw.2 (h * 5 + 3); rw [m3] at d3; have e4 := cell_blk hSw.1 4; rw [t4] at e4; have d4 := cell_blk hSw.2 (h * 5 + 4); rw [m4] at d4; go_simp; all_goals (with_reducible rfl)
      (try simp only [List.getElem_toArray, List.getElem_cons_succ, List.getElem_cons_zero, put_at, List.set])
      refine wtk (i := 5) (v := ?_) rfl hClosed (Or.inl ⟨by rfl, ?_⟩) hHeld (fun hClosed => ?_)
      rotate_left
      · intro wv hSw; have e0 := cell_blk hSw.1 0; rw [t0] at e0; have d0 := cell_blk hSw.2 (h * 5); rw [m0] at d0; have e1 := cell_blk hSw.1 1; rw [t1] at e1; have d1 := cell_blk hSw.2 (h * 5 + 1); rw [m1] at d1; have e2 := cell_blk hSw.1 2; rw [t2] at e2; have d2 := cell_blk hSw.2 (h * 5 + 2); rw [m2] at d2; have e3 := cell_blk hSw.1 3; rw [t3] at e3; have d3 := cell_blk hSw.2 (h * 5 + 3); rw [m3] at d3; have e4 := cell_blk hSw.1 4; rw [t4] at e4; have d4 := cell_blk hSw.2 (h * 5 + 4); rw [m4] at d4; go_simp; all_goals (with_reducible rfl)
      (try simp only [List.getElem_toArray, List.getElem_cons_succ, List.getElem_cons_zero, put_at, List.set])
      refine wpAnyL_one (i := 6) rfl (by kernel_rfl) (by kernel_rfl) hClosed (fun KK hK => ?_)
      go_simp
      refine (OR.out _).mono ?_
      rintro e wq ⟨rfl, hbq⟩
      go_wp2_with fail
      refine hK.out _ _ ?_ (fun hClosed hHeld => ?_)
      · exact ⟨(hbq.block T lT).trans hHeld.1, (hbq.block g lg).trans hHeld.2⟩
      clear hK KK
      (first | simp only [List.getElem_toArray, List.getElem_cons_succ, List.getElem_cons_zero, put_at, List.set] | (try simp only [put_at, List.set]))
      have BQ : Hid (Below w.heap.size w wq ∧ Below w1.heap.size w1 wq) := Lib.hid ⟨BP.out.1.drew.trans (hbq.mono szr), BP.out.2.drew.trans (hbq.mono szr1)⟩
      clear hbq OR
      refine wpAnyL_last rfl (by kernel_rfl) (by kernel_rfl) (fun KK hK => ?_)
      go_simp
      refine hK.out _ _ ?_
      (try simp only [put_at, List.set])
      cases c with
      | true =>
        have hp : v < 0 := of_decide_eq_true HC.out
        have hc0 : decide (v < 0) = true := HC.out
        go_wp2
        go_roundw
        case rel => exact ⟨h + 1, j, by omega, by omega, by go_num, rfl, BQ, NL.out rfl, HJ⟩
        case measure =>
          simp only [intOf]
          omega
      | false =>
        have hp : ¬ v < 0 := of_decide_eq_false HC.out
        have hc0 : decide (v < 0) = false := HC.out
        go_wp2
        go_roundw
        case rel => exact ⟨i, h, by omega, by omega, rfl, rfl, BQ, HI, NR.out rfl⟩
        case measure =>
          simp only [intOf]
          omega
    · have hkd : decide ((i : Int) < (j : Int)) = false := decide_eq_false (by omega)
      obtain rfl : i = j := by omega
      obtain rfl : pz = i := (PO.out i (by rw [HN.out]; exact hjn) HI.out (fun x hx => HJ.out i x (Nat.le_refl _) hx))
      by_cases hpn : pz < n
      · have hd8 : decide ((pz : Int) < (n : Int)) = true := decide_eq_true (by omega)
        obtain ⟨x, hx⟩ : ∃ x, rs[pz]? = some x := ⟨_, List.getElem?_eq_getElem (by rw [HN.out]; omega)⟩
        obtain ⟨g, hga, cl⟩ := (HR.out.later BR.out) pz x hx
        subst hga
        have m0 := cl.c0
        have m1 := cl.c1
        have m2 := cl.c2
        have m3 := cl.c3
        have m4 := cl.c4
        have OR := Lib.hid (fun W => OO.out x W)
        obtain ⟨v, hv⟩ : ∃ v, ordI x ⟨ri, rh, rp, rr, rt⟩ = v := ⟨_, rfl⟩
        rw [hv] at OR
        obtain ⟨xi, xh, xp, xr, xt⟩ := x
        dsimp only at m0 m1 m2 m3 m4
        have hx0 : (0 : Int) ≤ (pz : Int) := by omega
        have hx1 : (pz : Int) < (n : Int) := by omega
        have lg : g < wr.heap.size := World.block_lt_of_cell? _ _ m0
        have szr := BR.out.size
        obtain ⟨qb, hqb⟩ : ∃ qb, (v == 0) = qb := ⟨_, rfl⟩
        clear cl hx hv HR SM PO OO OL BX BB HI HJ
        go_upto_region 8 with fail
        refine wp_region_last 15 (fun w' => w'.heap[T]? = wr.heap[T]? ∧ w'.heap[g]? = wr.heap[g]?) (by kernel_rfl) (⟨rfl, rfl⟩) (fun hHeld hClosed => ?_)
        refine wtk (i := 0) (v := ?_) rfl hClosed (Or.inl ⟨by rfl, ?_⟩) hHeld (fun hClosed => ?_)
        rotate_left
        · intro wv hSw; go_simp; all_goals (with_reducible rfl)
        (try simp only [List.getElem_toArray, List.getElem_cons_zero, put_at, List.set])
        refine wtk (i := 1) (v := ?_) rfl hClosed (Or.inl ⟨by rfl, ?_⟩) hHeld (fun hClosed => ?_)
        rotate_left
        · intro wv hSw; go_simp; all_goals (with_reducible rfl)
        (try simp only [List.getElem_toArray, List.getElem_cons_succ, List.getElem_cons_zero, put_at, List.set])
        refine wtk (i := 2) (v := ?_) rfl hClosed (Or.inl ⟨by rfl, ?_⟩) hHeld (fun hClosed => ?_)
        rotate_left
        · intro wv hSw; go_simp; all_goals (with_reducible rfl)
        (try simp only [List.getElem_toArray, List.getElem_cons_succ, List.getElem_cons_zero, put_at, List.set])
        refine wtk (i := 3) (v := ?_) rfl hClosed (Or.inl ⟨by rfl, ?_⟩) hHeld (fun hClosed => ?_)
        rotate_left
        · intro wv hSw; go_simp; all_goals (with_reducible rfl)
        (try simp only [List.getElem_toArray, List.getElem_cons_succ, List.getElem_cons_zero, put_at, List.set])
        refine wtk (i := 4) (v := ?_) rfl hClosed (Or.inl ⟨by rfl, ?_⟩) hHeld (fun hClosed => ?_)
        rotate_left
        · intro wv hSw; go_simp; all_goals (with_reducible rfl)
        (try simp only [List.getElem_toArray, List.getElem_cons_succ, List.getElem_cons_zero, put_at, List.set])
        refine wtk (i := 5) (v := ?_) rfl hClosed (Or.inl ⟨by rfl, ?_⟩) hHeld (fun hClosed => ?_)
        rotate_left
        · intro wv hSw; go_simp; all_goals (with_reducible rfl)
        (try simp only [List.getElem_toArray, List.getElem_cons_succ, List.getElem_cons_zero, put_at, List.set])
        refine wtk (i := 6) (v := ?_) rfl hClosed (Or.inl ⟨by rfl, ?_⟩) hHeld (fun hClosed => ?_)
        rotate_left
        · intro wv hSw; go_simp; all_goals (with_reducible rfl)
        (try simp only [List.getElem_toArray, List.getElem_cons_succ, List.getElem_cons_zero, put_at, List.set])
        refine wtk (i := 7) (v := ?_) rfl hClosed (Or.inl ⟨by rfl, ?_⟩) hHeld (fun hClosed => ?_)
        rotate_left
        · intro wv hSw; go_simp; all_goals (with_reducible rfl)
        (try simp only [List.getElem_toArray, List.getElem_cons_succ, List.getElem_cons_zero, put_at, List.set])
        refine wtk (i := 8) (v := ?_) rfl hClosed (Or.inl ⟨by rfl, ?_⟩) hHeld (fun hClosed => ?_)
        rotate_left
        · intro wv hSw; go_simp; all_goals (with_reducible rfl)
        (try simp only [List.getElem_toArray, List.getElem_cons_succ, List.getElem_cons_zero, put_at, List.set])
        refine wtk (i := 9) (v := ?_) rfl hClosed (Or.inl ⟨by rfl, ?_⟩) hHeld (fun hClosed => ?_)
        rotate_left
        · intro wv hSw; have e0 := cell_blk hSw.1 0; rw [t0] at e0; have d0 := cell_blk hSw.2 (pz * 5); rw [m0] at d0; have e1 := cell_blk hSw.1 1; rw [t1] at e1; have d1 := cell_blk hSw.2 (pz * 5 + 1); rw [m1] at d1; have e2 := cell_blk hSw.1 2; rw [t2] at e2; have d2 := cell_blk hSw.2 (pz * 5 + 2); rw [m2] at d2; have e3 := cell_blk hSw.1 3; rw [t3] at e3; have d3 := cell_blk hSw.2 (pz * 5 + 3); rw [m3] at d3; have e4 := cell_blk hSw.1 4; rw [t4] at e4; have d4 := cell_blk hSw.2 (pz * 5 + 4); rw [m4] at d4; go_simp; all_goals (with_reducible rfl)
        (try simp only [List.getElem_toArray, List.getElem_cons_succ, List.getElem_cons_zero, put_at, List.set])
        refine wtk (i := 10) (v := ?_) rfl hClosed (Or.inl ⟨by rfl, ?_⟩) hHeld (fun hClosed => ?_)
        rotate_left
        · intro wv hSw; have e0 := cell_blk hSw.1 0; rw [t0] at e0; have d0 := cell_blk hSw.2 (pz * 5); rw [m0] at d0; have e1 := cell_blk hSw.1 1; rw [t1] at e1; have d1 := cell_blk hSw.2 (pz * 5 + 1); rw [m1] at d1; have e2 := cell_blk hSw.1 2; rw [t2] at e2; have d2 := cell_blk hSw.2 (pz * 5 + 2); rw [m2] at d2; have e3 := cell_blk hSw.1 3; rw [t3] at e3; have d3 := cell_blk hSw.2 (pz * 5 + 3); rw [m3] at d3; have e4 := cell_blk hSw.1 4; rw [t4] at e4; have d4 := cell_blk hSw.2 (pz * 5 + 4); rw [m4] at d4; go_simp; all_goals (with_reducible rfl)
        (try simp only [List.getElem_toArray, List.getElem_cons_succ, List.getElem_cons_zero, put_at, List.set])
        refine wpAnyL_one (i := 11) rfl (by kernel_rfl) (by kernel_rfl) hClosed (fun KK hK => ?_)
        go_simp
        refine (OR.out _).mono ?_
        rintro e wq ⟨rfl, hbq⟩
        go_wp2_with fail
        refine hK.out _ _ ?_ (fun hClosed hHeld => ?_)
        · exact ⟨(hbq.block T lT).trans hHeld.1, (hbq.block g lg).trans hHeld.2⟩
        clear hK KK
        (first | simp only [List.getElem_toArray, List.getElem_cons_succ, List.getElem_cons_zero, put_at, List.set] | (try simp only [put_at, List.set]))
        have BQ := Lib.hid (BR.out.drew.trans (hbq.mono szr))
        clear hbq OR
        refine wtk (i := 12) (v := ?_) rfl hClosed (Or.inl ⟨by rfl, ?_⟩) hHeld (fun hClosed => ?_)
        rotate_left
        · intro wv hSw; go_simp; all_goals (with_reducible rfl)
        (try simp only [List.getElem_toArray, List.getElem_cons_succ, List.getElem_cons_zero, put_at, List.set])
        refine wtk (i := 13) (v := ?_) rfl hClosed (Or.inl ⟨by rfl, ?_⟩) hHeld (fun hClosed => ?_)
        rotate_left
        · intro wv hSw; go_simp; all_goals (with_reducible rfl)
        (try simp only [List.getElem_toArray, List.getElem_cons_succ, List.getElem_cons_zero, put_at, List.set])
        refine wtk (i := 14) (v := ?_) rfl hClosed (Or.inl ⟨by rfl, ?_⟩) hHeld (fun hClosed => ?_)
        rotate_left
        · intro wv hSw; go_simp; all_goals (with_reducible rfl)
        (try simp only [List.getElem_toArray, List.getElem_cons_succ, List.getElem_cons_zero, put_at, List.set])
        refine wpAnyL_last rfl (by kernel_rfl) (by kernel_rfl) (fun KK hK => ?_)
        go_simp
        refine hK.out _ _ ?_
        (try simp only [put_at, List.set])
        go_wp2
        go_ret2
        exact ⟨⟨_, rfl⟩, BQ.out⟩
      · have hd8 : decide ((pz : Int) < (n : Int)) = false := decide_eq_false (by omega)
        clear HR SM PO OO OL BX BB HI HJ
        go_upto_region 8 with fail
        go_quiet (fail)
        go_wp2
        go_ret2
        exact ⟨⟨_, rfl⟩, qbin_drewN BR.out nq⟩
end Go.Proofs.YtimkgaokcldgkaaGreatDoor
