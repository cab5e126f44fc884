/- Package queue: a request comes in. -/
import Derived.Test.YtbifnmlhbepadaaQuIns
namespace Go.Proofs.Ytbifnmlhbepadaa
open Go Go.RowKit
set_option linter.unusedVariables false
set_option linter.unusedSimpArgs false
set_option maxRecDepth 10000

theorem own_block5 {w : World} {B : Nat} {E : TypeId} {size n cap : Nat} {a : Option Addr} {xs : List Value} (h : Own w B E size a n cap xs) {k : Nat} (hk : a.map (·.block) = some k) : a = some ⟨k, 0, none⟩ := by
  rcases h.form with ⟨rfl, _, _⟩ | ⟨g, rfl, _⟩
  · cases hk
  · injection hk with hk
    exact congrArg some (congrArg (fun g => (⟨g, 0, none⟩ : Addr)) hk)
theorem ins_at {w : World} {B n cap vb i : Nat} {a : Option Addr} {rs : List Rq} {r : Rq} (ho : Own w B 27 5 a n cap (rqC rs)) (hl : rs.length = n) (hn2 : n ≤ 999999) (hi : i ≤ n) (hB : B ≤ w.heap.size) (hv : Box w vb (rqA r) 27) (hne : ∀ g, a = some ⟨g, 0, none⟩ → vb ≠ g) :
    Calls Try.prog 51 #[.slice a n cap, .int .i64 i, .slice (some ⟨vb, 0, none⟩) 1 1] w (InsP B a rs r i n w) := by
  rcases Nat.lt_or_eq_of_le hi with hlt | rfl
  · obtain ⟨g, rfl, _⟩ := ho.some_ (by omega)
    have hc := ho.cap_le
    by_cases h : n + 1 ≤ cap
    · exact ins_shift ho hl hlt h hv (hne g rfl)
    · obtain rfl : n = cap := by omega
      exact ins_more ho hl hn2 hlt hB hv
  · exact ins_end ho hl hn2 hB hv
set_option maxHeartbeats 4000000 in
theorem insert_at {w : World} {B q cap : Nat} {a : Option Addr} {rs : List Rq} {most : Int} (h : Qm w B q a cap rs most) (hs : Srt rs) (hn2 : rs.length ≤ 999999) (hB : B ≤ w.heap.size) (r : Rq) :
    Calls Try.prog 31 #[.pointer (some ⟨q, 0, none⟩), .agg (rqA r), .func (.func 32) #[] #[]] w fun e w' => e = .returned (.tuple #[]) ∧ ∃ a' cap', Qm w' B q a' cap' (insQ rs r) most ∧ TurnQ q a w a' w' := by
  obtain ⟨n, hn⟩ : ∃ n, rs.length = n := ⟨_, rfl⟩
  have hpn := posQ_le rs r
  have INS := Lib.hid (fun (W : World) (vb : Nat) (hQ : Own W B 27 5 a n cap (rqC rs)) (hb : B ≤ W.heap.size) (hv : Box W vb (rqA r) 27) hne => ins_at hQ hn (by omega) (i := posQ rs r) (by omega) hb hv hne)
  have BIN := Lib.hid (fun (W : World) hr => bin_at rs r hs n hn (by omega) a cap W hr)
  have INSQ : Hid (rs.take (posQ rs r) ++ r :: rs.drop (posQ rs r) = insQ rs r) := Lib.hid rfl
  have HLEN : Hid ((insQ rs r).length = n + 1) := Lib.hid (by rw [insQ_len, hn])
  obtain ⟨pz, hpz⟩ : ∃ p, posQ rs r = p := ⟨_, rfl⟩
  rw [hpz] at INS BIN INSQ hpn
  rw [hn] at hpn hn2
  have QM := Lib.hid h
  have hne0 : Hid (∀ g, a = some ⟨g, 0, none⟩ → g ≠ q ∧ g < w.heap.size) := Lib.hid (fun g hg => by
    subst hg
    exact ⟨own_not_box5 h.own h.box (by decide), h.own.lt.2⟩)
  have BX := Lib.hid (Box.new w (rqA r) 27)
  have BB := Lib.hid ((Below.refl w.heap.size w).alloc (Nat.le_refl _) (.cells (rqA r) 27))
  have Q1 := Lib.hid (h.later BB.out)
  have HN := Lib.hid hn
  clear hs hpz h hn
  obtain ⟨ra, hra⟩ : ∃ ra, rqA r = ra := ⟨_, rfl⟩
  rw [hra] at BIN INS BX BB Q1 ⊢
  have HRA : Hid (ra = #[.int .i64 r.id, .string r.host, .string r.path, .int .i64 r.prio, .int .i64 r.til]) := Lib.hid (by rw [← hra]; rfl)
  have HRR := Lib.hid hra
  clear hra
  obtain ⟨ri, rh, rp, rr, rt⟩ := r
  obtain rfl := HRA.out
  clear HRA
  go_enter Try.func31, Try.ntmps31
  go_upto_region 1 with fail
  obtain ⟨w1, hw1⟩ : ∃ W, w.alloc (.cells #[.int .i64 ri, .string rh, .string rp, .int .i64 rr, .int .i64 rt] 27) = W := ⟨_, rfl⟩
  rw [hw1] at BX BB Q1
  rw [hw1]
  clear hw1
  have y0 := Q1.out.box.cell 0
  rw [HN.out] at y0
  have t0 := BX.out.cell 0
  have t1 := BX.out.cell 1
  have t2 := BX.out.cell 2
  have t3 := BX.out.cell 3
  have t4 := BX.out.cell 4
  have lq := Q1.out.box.lt
  have lT := BX.out.lt
  have BN : Hid (∀ W, Below w1.heap.size w1 W → Calls Try.prog 50 #[.slice a n cap, .agg #[.int .i64 ri, .string rh, .string rp, .int .i64 rr, .int .i64 rt], .func (.func 32) #[] #[]] W fun e w' => (∃ b : Bool, e = .returned (.tuple #[.int .i64 (pz : Int), .bool b])) ∧ Below W.heap.size W w') := Lib.hid (fun W hW => BIN.out W (Q1.out.later hW).own.rdQ)
  have hqw : q < w.heap.size := QM.out.box.lt
  obtain ⟨T, hT⟩ : ∃ T, w.heap.size = T := ⟨_, rfl⟩
  rw [hT] at BX t0 t1 t2 t3 t4 lT hqw ⊢
  clear BIN
  refine wp_region_last 11 (fun w' => w'.heap[q]? = w1.heap[q]? ∧ w'.heap[T]? = w1.heap[T]?) (by kernel_rfl) (⟨rfl, rfl⟩) (fun hHeld hClosed => ?_)
  refine wpAnyL_take (i := 0) (v := ?_) rfl (by kernel_rfl) (by kernel_rfl) (by kernel_rfl) (by kernel_rfl) (fun _ _ _ h => h) (by kernel_rfl) hClosed (Or.inl ⟨by rfl, ?_⟩) hHeld (fun hClosed => ?_)
  rotate_left
  · intro wv hSw; go_simp; all_goals (with_reducible rfl)
  (try simp only [List.getElem_toArray, List.getElem_cons_zero, put_at, List.set])
  refine wpAnyL_take (i := 1) (v := ?_) rfl (by kernel_rfl) (by kernel_rfl) (by kernel_rfl) (by kernel_rfl) (fun _ _ _ h => h) (by kernel_rfl) hClosed (Or.inl ⟨by rfl, ?_⟩) hHeld (fun hClosed => ?_)
  rotate_left
  · intro wv hSw; go_simp; all_goals (with_reducible rfl)
  (try simp only [List.getElem_toArray, List.getElem_cons_succ, List.getElem_cons_zero, put_at, List.set])
  refine wpAnyL_take (i := 2) (v := ?_) rfl (by kernel_rfl) (by kernel_rfl) (by kernel_rfl) (by kernel_rfl) (fun _ _ _ h => h) (by kernel_rfl) hClosed (Or.inl ⟨by rfl, ?_⟩) hHeld (fun hClosed => ?_)
  rotate_left
  · intro wv hSw; go_simp; all_goals (with_reducible rfl)
  (try simp only [List.getElem_toArray, List.getElem_cons_succ, List.getElem_cons_zero, put_at, List.set])
  refine wpAnyL_take (i := 3) (v := ?_) rfl (by kernel_rfl) (by kernel_rfl) (by kernel_rfl) (by kernel_rfl) (fun _ _ _ h => h) (by kernel_rfl) hClosed (Or.inl ⟨by rfl, ?_⟩) hHeld (fun hClosed => ?_)
  rotate_left
  · intro wv hSw; have e9 := cell_blk hSw.1 0; rw [y0] at e9; have e0 := cell_blk hSw.2 0; rw [t0] at e0; have e1 := cell_blk hSw.2 1; rw [t1] at e1; have e2 := cell_blk hSw.2 2; rw [t2] at e2; have e3 := cell_blk hSw.2 3; rw [t3] at e3; have e4 := cell_blk hSw.2 4; rw [t4] at e4; go_simp; all_goals (with_reducible rfl)
  (try simp only [List.getElem_toArray, List.getElem_cons_succ, List.getElem_cons_zero, put_at, List.set])
  refine wpAnyL_take (i := 4) (v := ?_) rfl (by kernel_rfl) (by kernel_rfl) (by kernel_rfl) (by kernel_rfl) (fun _ _ _ h => h) (by kernel_rfl) hClosed (Or.inl ⟨by rfl, ?_⟩) hHeld (fun hClosed => ?_)
  rotate_left
  · intro wv hSw; have e9 := cell_blk hSw.1 0; rw [y0] at e9; have e0 := cell_blk hSw.2 0; rw [t0] at e0; have e1 := cell_blk hSw.2 1; rw [t1] at e1; have e2 := cell_blk hSw.2 2; rw [t2] at e2; have e3 := cell_blk hSw.2 3; rw [t3] at e3; have e4 := cell_blk hSw.2 4; rw [t4] at e4; go_simp; all_goals (with_reducible rfl)
  (try simp only [List.getElem_toArray, List.getElem_cons_succ, List.getElem_cons_zero, put_at, List.set])
  refine wpAnyL_take (i := 5) (v := ?_) rfl (by kernel_rfl) (by kernel_rfl) (by kernel_rfl) (by kernel_rfl) (fun _ _ _ h => h) (by kernel_rfl) hClosed (Or.inl ⟨by rfl, ?_⟩) hHeld (fun hClosed => ?_)
  rotate_left
  · intro wv hSw; go_simp; all_goals (with_reducible rfl)
  (try simp only [List.getElem_toArray, List.getElem_cons_succ, List.getElem_cons_zero, put_at, List.set])
  refine wpAnyL_one (i := 6) rfl (by kernel_rfl) (by kernel_rfl) hClosed (fun KK hK => ?_)
  go_simp
  refine (BN.out _ (Below.refl _ _).drew).mono ?_
  rintro e wq ⟨⟨b, rfl⟩, hbq⟩
  go_wp2_with fail
  refine hK.out _ _ ?_ (fun hClosed hHeld => ?_)
  · exact ⟨(hbq.block q lq).trans hHeld.1, (hbq.block T lT).trans hHeld.2⟩
  clear hK KK
  (first | simp only [List.getElem_toArray, List.getElem_cons_succ, List.getElem_cons_zero, put_at, List.set] | (try simp only [put_at, List.set]))
  have BQ := Lib.hid ((Below.refl w1.heap.size w1).drew.trans hbq)
  clear hbq BN
  refine wpAnyL_take (i := 7) (v := ?_) rfl (by kernel_rfl) (by kernel_rfl) (by kernel_rfl) (by kernel_rfl) (fun _ _ _ h => h) (by kernel_rfl) hClosed (Or.inl ⟨by rfl, ?_⟩) hHeld (fun hClosed => ?_)
  rotate_left
  · intro wv hSw; go_simp; all_goals (with_reducible rfl)
  (try simp only [List.getElem_toArray, List.getElem_cons_succ, List.getElem_cons_zero, put_at, List.set])
  refine wpAnyL_take (i := 8) (v := ?_) rfl (by kernel_rfl) (by kernel_rfl) (by kernel_rfl) (by kernel_rfl) (fun _ _ _ h => h) (by kernel_rfl) hClosed (Or.inl ⟨by rfl, ?_⟩) hHeld (fun hClosed => ?_)
  rotate_left
  · intro wv hSw; go_simp; all_goals (with_reducible rfl)
  (try simp only [List.getElem_toArray, List.getElem_cons_succ, List.getElem_cons_zero, put_at, List.set])
  refine wpAnyL_take (i := 9) (v := ?_) rfl (by kernel_rfl) (by kernel_rfl) (by kernel_rfl) (by kernel_rfl) (fun _ _ _ h => h) (by kernel_rfl) hClosed (Or.inl ⟨by rfl, ?_⟩) hHeld (fun hClosed => ?_)
  rotate_left
  · intro wv hSw; go_simp; all_goals (with_reducible rfl)
  (try simp only [List.getElem_toArray, List.getElem_cons_succ, List.getElem_cons_zero, put_at, List.set])
  refine wpAnyL_take (i := 10) (v := ?_) rfl (by kernel_rfl) (by kernel_rfl) (by kernel_rfl) (by kernel_rfl) (fun _ _ _ h => h) (by kernel_rfl) hClosed (Or.inl ⟨by rfl, ?_⟩) hHeld (fun hClosed => ?_)
  rotate_left
  · intro wv hSw; go_simp; all_goals (with_reducible rfl)
  (try simp only [List.getElem_toArray, List.getElem_cons_succ, List.getElem_cons_zero, put_at, List.set])
  refine wpAnyL_last rfl (by kernel_rfl) (by kernel_rfl) (fun KK hK => ?_)
  go_simp
  refine hK.out _ _ ?_
  (try simp only [put_at, List.set])
  obtain ⟨wy, hwy⟩ : ∃ W, wq = W := ⟨_, rfl⟩
  rw [hwy] at BQ ⊢
  clear hwy hHeld hClosed
  have QY := Lib.hid (Q1.out.later BQ.out)
  have BY := Lib.hid (BX.out.later BQ.out)
  have WY := Lib.hid (BB.out.trans (BQ.out.mono BB.out.size))
  clear y0 t0 t1 t2 t3 t4 lq lT Q1 BX BB BQ QM
  have y0 := QY.out.box.cell 0
  rw [HN.out] at y0
  have yf := QY.out.box.free 0
  have t0 := BY.out.cell 0
  have t1 := BY.out.cell 1
  have t2 := BY.out.cell 2
  have t3 := BY.out.cell 3
  have t4 := BY.out.cell 4
  have lq2 := QY.out.box.lt
  have lT2 := BY.out.lt
  have hqa : some q ≠ a.map (·.block) := fun e => by
    have h1 := own_block5 QY.out.own e.symm
    exact (hne0.out q h1).1 rfl
  have hTa : some T ≠ a.map (·.block) := fun e => by
    have h1 := own_block5 QY.out.own e.symm
    have := (hne0.out T h1).2
    omega
  have WZ : Hid (Below wy.heap.size wy ((wy.alloc (.cells #[.int .i64 ri, .string rh, .string rp, .int .i64 rr, .int .i64 rt] 27)).drew)) := Lib.hid (((Below.refl _ _).alloc (Nat.le_refl _) _).drew)
  have IN : Hid (Calls Try.prog 51 #[.slice a n cap, .int .i64 (pz : Int), .slice (some ⟨wy.heap.size, 0, none⟩) 1 1] ((wy.alloc (.cells #[.int .i64 ri, .string rh, .string rp, .int .i64 rr, .int .i64 rt] 27)).drew) (InsP B a rs ⟨ri, rh, rp, rr, rt⟩ pz n ((wy.alloc (.cells #[.int .i64 ri, .string rh, .string rp, .int .i64 rr, .int .i64 rt] 27)).drew))) := Lib.hid (INS.out _ wy.heap.size (by have := (QY.out.later WZ.out).own; rw [HN.out] at this; exact this) (Nat.le_trans hB (Nat.le_trans WY.out.size WZ.out.size)) (Box.new wy _ _) (fun g hg e => by have := (hne0.out g hg).2; have := WY.out.size; omega))
  have LEAF : Hid (∀ a' cap' w3, Own w3 B 27 5 a' (n + 1) cap' (rqC (rs.take pz ++ ⟨ri, rh, rp, rr, rt⟩ :: rs.drop pz)) → ((wy.alloc (.cells #[.int .i64 ri, .string rh, .string rp, .int .i64 rr, .int .i64 rt] 27)).drew).grownBy w3 (a.map (·.block)) → (a' = a ∨ ∃ g, a' = some ⟨g, 0, none⟩ ∧ ((wy.alloc (.cells #[.int .i64 ri, .string rh, .string rp, .int .i64 rr, .int .i64 rt] 27)).drew).heap.size ≤ g) →
      Hid (Qm (w3.setCell ⟨q, 0, none⟩ (.slice a' (n + 1) cap')) B q a' cap' (insQ rs ⟨ri, rh, rp, rr, rt⟩) most ∧ TurnQ q a w a' (w3.setCell ⟨q, 0, none⟩ (.slice a' (n + 1) cap')))) := Lib.hid (fun a' cap' w3 q1 q2 q3 => Lib.hid (by
    have kq : Box w3 q #[.slice a n cap, .int .i64 most] 72 := by
      have hb := (QY.out.later WZ.out).box
      rw [HN.out] at hb
      exact (q2.block q (by have := WZ.out.size; omega) hqa).trans hb
    have ng : ∀ g, a' = some ⟨g, 0, none⟩ → g ≠ q := fun g hg => by subst hg; exact own_not_box5 q1 kq (by decide)
    have wz := WZ.out.size
    refine ⟨⟨?_, ?_, QY.out.qB⟩, ?_, fun k hk => ?_⟩
    · rw [HLEN.out]
      exact kq.set 0 _
    · rw [HLEN.out, ← INSQ.out]
      exact q1.other (fun g hg => ng g hg) _
    · have o1 : Only (MineQ q a) w wy := Only.of_below _ WY.out
      have o2 : Only (MineQ q a) w ((wy.alloc (.cells #[.int .i64 ri, .string rh, .string rp, .int .i64 rr, .int .i64 rt] 27)).drew) := o1.later WZ.out
      have o3 : Only (MineQ q a) w w3 := o2.trans (Only.of_grown (R := fun k => some k = a.map (·.block)) q2 (fun k hk => hk.symm)) (fun x hx => Or.inl (Or.inr (own_block5 QY.out.own hx.symm)))
      exact o3.setCell (Or.inl (Or.inl rfl)) _
    · rcases q3 with rfl | ⟨g, rfl, hg⟩
      · exact Or.inl hk
      · injection hk with hk
        injection hk with hk
        subst hk
        right
        have := WY.out.size
        omega))
  clear INS QY BY WY WZ
  go_upto_region 2 with fail
  refine wp_region_last 11 (fun w' => w'.heap[q]? = wy.heap[q]? ∧ w'.heap[T]? = wy.heap[T]?) (by kernel_rfl) (⟨rfl, rfl⟩) (fun hHeld hClosed => ?_)
  refine wpAnyL_take (i := 0) (v := ?_) rfl (by kernel_rfl) (by kernel_rfl) (by kernel_rfl) (by kernel_rfl) (fun _ _ _ h => h) (by kernel_rfl) hClosed (Or.inl ⟨by rfl, ?_⟩) hHeld (fun hClosed => ?_)
  rotate_left
  · intro wv hSw; go_simp; all_goals (with_reducible rfl)
  (try simp only [List.getElem_toArray, List.getElem_cons_zero, put_at, List.set])
  refine wpAnyL_take (i := 1) (v := ?_) rfl (by kernel_rfl) (by kernel_rfl) (by kernel_rfl) (by kernel_rfl) (fun _ _ _ h => h) (by kernel_rfl) hClosed (Or.inl ⟨by rfl, ?_⟩) hHeld (fun hClosed => ?_)
  rotate_left
  · intro wv hSw; go_simp; all_goals (with_reducible rfl)
  (try simp only [List.getElem_toArray, List.getElem_cons_succ, List.getElem_cons_zero, put_at, List.set])
  refine wpAnyL_take (i := 2) (v := ?_) rfl (by kernel_rfl) (by kernel_rfl) (by kernel_rfl) (by kernel_rfl) (fun _ _ _ h => h) (by kernel_rfl) hClosed (Or.inl ⟨by rfl, ?_⟩) hHeld (fun hClosed => ?_)
  rotate_left
  · intro wv hSw; go_simp; all_goals (with_reducible rfl)
  (try simp only [List.getElem_toArray, List.getElem_cons_succ, List.getElem_cons_zero, put_at, List.set])
  refine wpAnyL_take (i := 3) (v := ?_) rfl (by kernel_rfl) (by kernel_rfl) (by kernel_rfl) (by kernel_rfl) (fun _ _ _ h => h) (by kernel_rfl) hClosed (Or.inl ⟨by rfl, ?_⟩) hHeld (fun hClosed => ?_)
  rotate_left
  · intro wv hSw; go_simp; all_goals (with_reducible rfl)
  (try simp only [List.getElem_toArray, List.getElem_cons_succ, List.getElem_cons_zero, put_at, List.set])
  refine wpAnyL_take (i := 4) (v := ?_) rfl (by kernel_rfl) (by kernel_rfl) (by kernel_rfl) (by kernel_rfl) (fun _ _ _ h => h) (by kernel_rfl) hClosed (Or.inl ⟨by rfl, ?_⟩) hHeld (fun hClosed => ?_)
  rotate_left
  · intro wv hSw; have e9 := cell_blk hSw.1 0; rw [y0] at e9; have e0 := cell_blk hSw.2 0; rw [t0] at e0; have e1 := cell_blk hSw.2 1; rw [t1] at e1; have e2 := cell_blk hSw.2 2; rw [t2] at e2; have e3 := cell_blk hSw.2 3; rw [t3] at e3; have e4 := cell_blk hSw.2 4; rw [t4] at e4; go_simp; all_goals (with_reducible rfl)
  (try simp only [List.getElem_toArray, List.getElem_cons_succ, List.getElem_cons_zero, put_at, List.set])
  refine wpAnyL_take (i := 5) (v := ?_) rfl (by kernel_rfl) (by kernel_rfl) (by kernel_rfl) (by kernel_rfl) (fun _ _ _ h => h) (by kernel_rfl) hClosed (Or.inl ⟨by rfl, ?_⟩) hHeld (fun hClosed => ?_)
  rotate_left
  · intro wv hSw; go_simp; all_goals (with_reducible rfl)
  (try simp only [List.getElem_toArray, List.getElem_cons_succ, List.getElem_cons_zero, put_at, List.set])
  refine wpAnyL_take (i := 6) (v := ?_) rfl (by kernel_rfl) (by kernel_rfl) (by kernel_rfl) (by kernel_rfl) (fun _ _ _ h => h) (by kernel_rfl) hClosed (Or.inl ⟨by rfl, ?_⟩) hHeld (fun hClosed => ?_)
  rotate_left
  · intro wv hSw; have e9 := cell_blk hSw.1 0; rw [y0] at e9; have e0 := cell_blk hSw.2 0; rw [t0] at e0; have e1 := cell_blk hSw.2 1; rw [t1] at e1; have e2 := cell_blk hSw.2 2; rw [t2] at e2; have e3 := cell_blk hSw.2 3; rw [t3] at e3; have e4 := cell_blk hSw.2 4; rw [t4] at e4; go_simp; all_goals (with_reducible rfl)
  (try simp only [List.getElem_toArray, List.getElem_cons_succ, List.getElem_cons_zero, put_at, List.set])
  refine wpAnyL_one (i := 7) rfl (by kernel_rfl) (by kernel_rfl) hClosed (fun KK hK => ?_)
  go_simp
  refine hK.out _ _ ?_ (fun hClosed hHeld => ?_)
  · exact ⟨(Below.heap_alloc _ _ q (by first | exact lq2 | simpa using lq2)).trans hHeld.1, (Below.heap_alloc _ _ T (by first | exact lT2 | simpa using lT2)).trans hHeld.2⟩
  clear hK KK
  (first | simp only [List.getElem_toArray, List.getElem_cons_succ, List.getElem_cons_zero, put_at, List.set] | (try simp only [put_at, List.set]))
  refine wpAnyL_one (i := 8) rfl (by kernel_rfl) (by kernel_rfl) hClosed (fun KK hK => ?_)
  go_simp
  refine IN.out.mono ?_
  rintro e w3 ⟨a', cap', rfl, o3, g3, ha3⟩
  go_wp2_with fail
  refine hK.out _ _ ?_ (fun hClosed hHeld => ?_)
  · exact ⟨(g3.block q (by simp; omega) hqa).trans (Below.heap_alloc wy _ q lq2), (g3.block T (by simp; omega) hTa).trans (Below.heap_alloc wy _ T lT2)⟩
  clear hK KK
  (first | simp only [List.getElem_toArray, List.getElem_cons_succ, List.getElem_cons_zero, put_at, List.set] | (try simp only [put_at, List.set]))
  have NX := LEAF.out a' cap' w3 o3 g3 ha3
  clear o3 g3 ha3 IN LEAF
  refine wpAnyL_take (i := 9) (v := ?_) rfl (by kernel_rfl) (by kernel_rfl) (by kernel_rfl) (by kernel_rfl) (fun _ _ _ h => h) (by kernel_rfl) hClosed (Or.inl ⟨by rfl, ?_⟩) hHeld (fun hClosed => ?_)
  rotate_left
  · intro wv hSw; go_simp; all_goals (with_reducible rfl)
  (try simp only [List.getElem_toArray, List.getElem_cons_succ, List.getElem_cons_zero, put_at, List.set])
  refine wpAnyL_take (i := 10) (v := ?_) rfl (by kernel_rfl) (by kernel_rfl) (by kernel_rfl) (by kernel_rfl) (fun _ _ _ h => h) (by kernel_rfl) hClosed (Or.inl ⟨by rfl, ?_⟩) hHeld (fun hClosed => ?_)
  rotate_left
  · intro wv hSw; go_simp; all_goals (with_reducible rfl)
  (try simp only [List.getElem_toArray, List.getElem_cons_succ, List.getElem_cons_zero, put_at, List.set])
  refine wpAnyL_last rfl (by kernel_rfl) (by kernel_rfl) (fun KK hK => ?_)
  have c3 := (cell_blk hHeld.1 0).trans y0
  have f3 := (frz_blk hHeld.1 0).trans yf
  go_simp
  refine hK.out _ _ ?_
  (try simp only [put_at, List.set])
  obtain ⟨w4, hw4⟩ : ∃ W, w3.setCell ⟨q, 0, none⟩ (.slice a' (n + 1) cap') = W := ⟨_, rfl⟩
  rw [hw4] at NX
  rw [hw4]
  clear hw4 c3 f3
  go_wp2
  exact bodyPost_end (v := .tuple #[]) (by simp [results, Try.results31, go_sem]) rfl ⟨rfl, a', cap', NX.out⟩
end Go.Proofs.Ytbifnmlhbepadaa
