/- Package disk: Append. -/
import Derived.Test.YtomeipjglnpciaaDkFn
namespace Go.Proofs.Ytomeipjglnpciaa
open Go Go.RowKit Go.Maps
set_option linter.unusedVariables false
set_option linter.unusedSimpArgs false
set_option maxRecDepth 10000

theorem cell_blk {w w' : World} {b : Nat} (h : w'.heap[b]? = w.heap[b]?) (j : Nat) : w'.cell? ⟨b, j, none⟩ = w.cell? ⟨b, j, none⟩ := by
  unfold World.cell?
  rw [h]
theorem own_block5 {w : World} {B : Nat} {E : TypeId} {size n cap : Nat} {a : Option Addr} {xs : List Value} (h : Own w B E size a n cap xs) {k : Nat} (hk : a.map (·.block) = some k) : a = some ⟨k, 0, none⟩ := by
  rcases h.form with ⟨e, _⟩ | ⟨g, e, _⟩
  · rw [e] at hk; cases hk
  · rw [e] at hk ⊢
    exact congrArg (fun x => some (⟨x, 0, none⟩ : Addr)) (Option.some.inj hk)
theorem pc_one (n m : Int) : (#[.int .i64 n, .int .i64 m] : Array Value).all (·.oneCell') = true := by simp [Value.oneCell']
theorem dk_drewN {B : Nat} {a w : World} (h : Below B a w) (n : Nat) : Below B a (w.drewN n) := ⟨h.os, h.tape, h.output, h.size, h.block⟩
/-- A row of another element type is another block. -/
theorem own_apart {w : World} {B1 B2 s1 s2 n1 n2 c1 c2 : Nat} {E1 E2 : TypeId} {a1 a2 : Option Addr} {x1 x2 : List Value} {g : Nat} (h1 : Own w B1 E1 s1 a1 n1 c1 x1) (h2 : Own w B2 E2 s2 a2 n2 c2 x2) (e1 : a1 = some ⟨g, 0, none⟩) (e2 : a2 = some ⟨g, 0, none⟩) (hne : E1 ≠ E2) : False := by
  subst e1 e2
  obtain ⟨u, hu, _⟩ := h1.block
  obtain ⟨v, hv, _⟩ := h2.block
  rw [hu] at hv
  injection hv with hv
  injection hv with _ h _
  exact hne h
theorem Box.kept5 {w w' : World} {B d U uc : Nat} {cs : Array Value} {ua : Option Addr} {xs : List Value} (h : Box w d cs 51) (hg : w.grownBy w' (ua.map (·.block))) (ho : Own w B 54 2 ua U uc xs) : Box w' d cs 51 :=
  (hg.block d h.lt (fun e => by
    have h9 := own_block5 ho e.symm
    rw [h9] at ho
    exact own_not_box ho h (by decide) rfl)).trans h
section
variable {w : World} {B d bm uc : Nat} {S : Sgs} {V : VF} {ua : Option Addr} {un : Pcs} {most beh fal : Int}
theorem Dm.bm_ne (h : Dm w B d bm S V ua uc un most beh fal) : d ≠ bm := by
  obtain ⟨D, m, ho, _⟩ := h.mp.mp
  exact ownsMap_not_box ho h.box
theorem Dm.lk_d (h : Dm w B d bm S V ua uc un most beh fal) (n : Int) : some d ≠ (lkA S V n).map (·.block) := fun e => by
  have h8 := lk_own h.mp n
  have h9 := own_block5 h8 e.symm
  rw [h9] at h8
  exact own_not_box h8 h.box (by decide) rfl
theorem Dm.box_map (h : Dm w B d bm S V ua uc un most beh fal) {n : Int} {w3 w4 : World} (h1 : w.grownBy w3 ((lkA S V n).map (·.block))) (h2 : w3.mapTurned w4 bm) : Box w4 d #[.int .i64 most, .map (some bm), .slice ua un.length uc, .int .i64 beh, .int .i64 fal] 51 :=
  (h2.grown.block d (Nat.lt_of_lt_of_le h.box.lt h1.size) (fun e => h.bm_ne (Option.some.inj e))).trans ((h1.block d h.box.lt (h.lk_d n)).trans h.box)
theorem Dm.own_map (h : Dm w B d bm S V ua uc un most beh fal) {n : Int} {w3 w4 : World} (h1 : w.grownBy w3 ((lkA S V n).map (·.block))) (h2 : w3.mapTurned w4 bm) : Own w4 B 54 2 ua un.length uc (pcC un) := by
  refine h.own.blocks fun g e => ?_
  have hl := (own_lt h.own e).1
  refine (h2.grown.block g (Nat.lt_of_lt_of_le hl h1.size) (fun e2 => ?_)).trans (h1.block g hl fun e2 => ?_)
  · obtain ⟨D, m, ho, _⟩ := h.mp.mp
    exact ownsMap_not_own ho h.own e (Option.some.inj e2)
  · have h8 := lk_own h.mp n
    exact own_apart h8 h.own (own_block5 h8 e2.symm) e (by decide)
theorem lk_mine (S : Sgs) (V : VF) (n : Int) {k : Nat} (hk : lkA S V n = some ⟨k, 0, none⟩) (bm : Nat) : MineM bm S V none k := by
  unfold lkA at hk
  split at hk
  · rename_i hs
    obtain ⟨b, hb⟩ := Option.isSome_iff_exists.1 hs
    exact Or.inr ⟨n, b, hb, by simp, hk⟩
  · cases hk
/-- Bytes have been added to a segment, and the piece noted. -/
theorem Dm.added (h : Dm w B d bm S V ua uc un most beh fal) {n : Int} {b : List Int} {a3 : Option Addr} {c3 g5 c5 : Nat} {w3 w4 w5 : World} (hnw : (Lit.int .i64 n).wf = true) (hc : (pS S n (gD S n ++ b)).length ≤ 16) (hs : (gD S n ++ b).length ≤ 2048)
    (q2 : w.grownBy w3 ((lkA S V n).map (·.block))) (q6 : Mp w4 B bm (pS S n (gD S n ++ b)) (setV V n a3 c3) none) (q7 : w3.mapTurned w4 bm) (q4 : ∀ g, a3 = some ⟨g, 0, none⟩ → (lkA S V n).map (·.block) = some g ∨ w.heap.size ≤ g)
    (p1 : Own w5 B 54 2 (some ⟨g5, 0, none⟩) (un.length + 1) c5 (pcC (un ++ [(n, b.length)]))) (p2 : w4.grownBy w5 (ua.map (·.block))) (p4 : ua.map (·.block) = some g5 ∨ g5 = w4.heap.size + 1) :
    Dm (w5.setCell ⟨d, 2, none⟩ (.slice (some ⟨g5, 0, none⟩) (un.length + 1) c5)) B d bm (pS S n (gD S n ++ b)) (setV V n a3 c3) (some ⟨g5, 0, none⟩) c5 (un ++ [(n, b.length)]) most beh fal ∧
      TurnD d bm S V ua w (pS S n (gD S n ++ b)) (setV V n a3 c3) (some ⟨g5, 0, none⟩) (w5.setCell ⟨d, 2, none⟩ (.slice (some ⟨g5, 0, none⟩) (un.length + 1) c5)) := by
  have b4 := h.box_map q2 q7
  have o4 := h.own_map q2 q7
  have b5 := Box.kept5 b4 p2 o4
  have s4 : w.heap.size ≤ w4.heap.size := Nat.le_trans q2.size q7.grown.size
  have m5 : Mp w5 B bm (pS S n (gD S n ++ b)) (setV V n a3 c3) none := q6.blocks fun k hk => p2.block k (q6.mine_lt hk).1 fun e => by
    have h9 := own_block5 o4 e.symm
    rw [h9] at o4
    obtain ⟨cur, hcur, _⟩ := o4.block
    exact q6.off hcur (by decide) hk
  have hO : Only (MineD d bm S V ua) w (w5.setCell ⟨d, 2, none⟩ (.slice (some ⟨g5, 0, none⟩) (un.length + 1) c5)) := by
    have h1 : Only (MineD d bm S V ua) w w3 := Only.of_grown q2 fun k hk => Or.inr (Or.inl (lk_mine S V n (own_block5 (lk_own h.mp n) hk) bm))
    have h2 : Only (MineD d bm S V ua) w3 w4 := Only.of_grown q7.grown fun k hk => Or.inr (Or.inl (Or.inl (Option.some.inj hk).symm))
    have h3 : Only (MineD d bm S V ua) w4 w5 := Only.of_grown p2 fun k hk => Or.inr (Or.inr (own_block5 o4 hk))
    exact ((h1.trans h2 fun x hx => Or.inl hx).trans h3 fun x hx => Or.inl hx).setCell (Or.inl (Or.inl rfl)) _
  refine ⟨⟨?_, ?_, ?_, ?_, h.dB, h.behB, h.falB, h.mo, hc, fun k => ?_, fun k hk => ?_⟩, hO, fun k hk => ?_⟩
  · rw [List.length_append]
    exact b5.set 2 _
  · exact m5.blocks fun k hk => Below.heap_setCell w5 ⟨d, 2, none⟩ _ k fun e => m5.off (k := d) (cs := _) (t := 51) (z := (0, 0)) b5 (by decide) (by rw [show d = k from e.symm]; exact hk)
  · rw [List.length_append]
    exact p1.other (fun g e => by
      injection e with e
      injection e with e
      subst e
      exact own_not_box p1 b5 (by decide)) _
  · exact h.un_ok.add n b
  · rw [gD_put]
    split
    · exact hs
    · exact h.seg k
  · by_cases e : k = n
    · rw [e]; exact hnw
    · rw [gS_put, if_neg e] at hk
      exact h.kw k hk
  · rcases hk with hk | hk | hk
    · exact Or.inl (Or.inl hk)
    · rcases hk with hk | ⟨m, b', hm, _, e⟩
      · exact Or.inl (Or.inr (Or.inl (Or.inl hk)))
      · by_cases em : m = n
        · subst em
          rw [setV_same] at e
          rcases q4 k e with h5 | h5
          · exact Or.inl (Or.inr (Or.inl (lk_mine S V m (own_block5 (lk_own h.mp m) h5) bm)))
          · exact Or.inr h5
        · rw [setV_other _ _ _ _ em] at e
          rw [gS_put, if_neg em] at hm
          exact Or.inl (Or.inr (Or.inl (Or.inr ⟨m, b', hm, by simp, e⟩)))
    · injection hk with hk
      injection hk with hk
      subst hk
      rcases p4 with p4 | p4
      · exact Or.inl (Or.inr (Or.inr (own_block5 h.own p4)))
      · exact Or.inr (by omega)
def apF (S : Sgs) (most : Int) (n : Int) (m : Nat) : Bool := (!(gS S n).isSome && decide (most ≤ (S.length : Int))) || decide (2048 < ((gD S n).length : Int) + (m : Int))
def AppP (B d bm : Nat) (S : Sgs) (V : VF) (ua : Option Addr) (w : World) (un : Pcs) (most beh fal n : Int) (b : List Int) (e : Ending) (w' : World) : Prop :=
  (apF S most n b.length = true ∧ e = .returned (.int .i64 5) ∧ Below w.heap.size w w') ∨
  (apF S most n b.length = false ∧ wfB beh fal = true ∧ e = .returned (.int .i64 7) ∧ AftD B d bm S V ua w S un most (wfH beh) (wfF beh fal) w') ∨
  (apF S most n b.length = false ∧ wfB beh fal = false ∧ e = .returned (.int .i64 0) ∧ AftD B d bm S V ua w (pS S n (gD S n ++ b)) (un ++ [(n, b.length)]) most (wfH beh) (wfF beh fal) w')
theorem app_nil (n : Int) (ab : Option Addr) (m cb : Nat) (w : World) : Calls Try.prog 6 #[.pointer none, .int .i64 n, .slice ab m cb] w fun e w' => e = .returned (.int .i64 1) ∧ w' = w := by
  go_enter Try.func6, Try.ntmps6
  go_wp2
  go_ret
  exact ⟨rfl, rfl⟩
theorem app_arg (n : Int) (hn : n < 0) (d : Nat) (ab : Option Addr) (m cb : Nat) (w : World) : Calls Try.prog 6 #[.pointer (some ⟨d, 0, none⟩), .int .i64 n, .slice ab m cb] w fun e w' => e = .returned (.int .i64 1) ∧ w' = w := by
  have d1 : decide (n < 0) = true := decide_eq_true hn
  go_enter Try.func6, Try.ntmps6
  go_wp2
  go_ret
  exact ⟨rfl, rfl⟩
theorem RdC.only {R : Nat → Prop} {w w' : World} {a2 : Option Addr} {ys : List Value} (h : RdC w a2 ys) (ho : Only R w w') (hne : ∀ g off, a2 = some ⟨g, off, none⟩ → ¬ R g) : RdC w' a2 ys := fun j u hj => by
  obtain ⟨b, o, e, hc⟩ := h j u hj
  exact ⟨b, o, e, (cell_blk (ho.block b (World.block_lt_of_cell? _ _ hc) (hne b o e)) _).trans hc⟩
set_option maxHeartbeats 4000000 in
theorem app_at (h : Dm w B d bm S V ua uc un most beh fal) (n : Int) (hn : 0 ≤ n) (hnw : (Lit.int .i64 n).wf = true) (hu : un.length ≤ 99999) (b : List Int) (m : Nat) (hm : b.length = m) (hm2 : m ≤ 100000) (ab : Option Addr) (cb : Nat) (hr : RdC w ab (u8L b)) (hnm : ∀ g off, ab = some ⟨g, off, none⟩ → b ≠ [] → ¬ MineD d bm S V ua g) :
    Calls Try.prog 6 #[.pointer (some ⟨d, 0, none⟩), .int .i64 n, .slice ab m cb] w (AppP B d bm S V ua w un most beh fal n b) := by
  have LK := h.mp.look_ok n hnw
  have ML : ∀ k ty, (Builtin.len_ #[48] ty #[.map (some bm)]).run Try.prog (w.drewN k) = .ok (.int .i64 (S.length : Int)) (w.drewN k) := by
    obtain ⟨D, mm, ho, hsz, _⟩ := h.mp.size
    intro k ty
    rw [(ownsMap_blk (w' := w.drewN k) ho rfl).len Try.underlying48 ty, hsz]
  obtain ⟨fb, hfb⟩ : ∃ x, apF S most n m = x := ⟨_, rfl⟩
  have HD := Lib.hid h
  have HM := Lib.hid hm
  have HR := Lib.hid hr
  have HNM := Lib.hid hnm
  have c0 := h.box.cell 0
  have c1 := h.box.cell 1
  have ld := h.box.lt
  have hsg := h.seg n
  obtain ⟨A, hA⟩ : ∃ A, lkA S V n = A := ⟨_, rfl⟩
  obtain ⟨C, hC⟩ : ∃ C, lkC S V n = C := ⟨_, rfl⟩
  obtain ⟨L, hL⟩ : ∃ L, (gD S n).length = L := ⟨_, rfl⟩
  obtain ⟨has, hhas⟩ : ∃ b, (gS S n).isSome = b := ⟨_, rfl⟩
  obtain ⟨K, hK⟩ : ∃ K, S.length = K := ⟨_, rfl⟩
  obtain ⟨c9, hc9⟩ : ∃ b, decide (most ≤ (K : Int)) = b := ⟨_, rfl⟩
  obtain ⟨c8, hc8⟩ : ∃ b, decide (2048 < (L : Int) + (m : Int)) = b := ⟨_, rfl⟩
  have HFB := Lib.hid hfb
  have hfb2 := hfb
  unfold apF at hfb2
  rw [hhas, hK, hL, hc9, hc8] at hfb2
  have HF2 := Lib.hid hfb2
  have HHAS := Lib.hid hhas
  have HL := Lib.hid hL
  have HK := Lib.hid hK
  have HC9 := Lib.hid hc9
  have HC8 := Lib.hid hc8
  rw [hA, hC, hL, hhas] at LK
  rw [hL] at hsg
  rw [hK] at ML
  have hwr : IntKind.i64.wrap ((L : Int) + (m : Int)) = (L : Int) + (m : Int) := IntWalk.i64_in _ (by omega)
  have d1 : decide (n < 0) = false := decide_eq_false (by omega)
  have d1p : ¬ n < 0 := by omega
  clear h hm hr hnm hfb hfb2 hhas hK
  go_enter Try.func6, Try.ntmps6
  go_upto_region 4 with fail
  clear LK
  go_cut [45] (fun v wx => v = .bool fb ∧ Hid (Below w.heap.size w wx))
  case first =>
    have HF := HF2.out
    cases has with
    | true =>
      obtain rfl : c8 = fb := by simpa using HF
      go_quiet (fail)
      go_wp2
      go_meet
      exact ⟨rfl, Lib.hid (dk_drewN (Below.refl _ _) nq)⟩
    | false =>
      cases c9 with
      | true =>
        obtain rfl : true = fb := by simpa using HF
        go_quiet (fail)
        go_wp2
        go_meet
        exact ⟨rfl, Lib.hid (dk_drewN (Below.refl _ _) nq)⟩
      | false =>
        obtain rfl : c8 = fb := by simpa using HF
        go_quiet (fail)
        go_wp2
        go_meet
        exact ⟨rfl, Lib.hid (dk_drewN (Below.refl _ _) nq)⟩
  case rest =>
    obtain ⟨rfl, BC⟩ := hcut
    obtain ⟨w1, hw1⟩ : ∃ W, wc = W := ⟨_, rfl⟩
    rw [hw1] at BC ⊢
    clear hw1 ML c0 c1 hc9 hc8 hwr
    cases fb with
    | true =>
      have FIN : Hid (AppP B d bm S V ua w un most beh fal n b (.returned (.int .i64 5)) w1) := Lib.hid (Or.inl ⟨by rw [HM.out]; exact HFB.out, rfl, BC.out⟩)
      go_wp2
      go_ret
      exact FIN.out
    | false =>
      have WF := Lib.hid (wf_at (HD.out.later BC.out))
      have APF : Hid (apF S most n b.length = false) := Lib.hid (by rw [HM.out]; exact HFB.out)
      obtain ⟨wb, hwb⟩ : ∃ x, wfB beh fal = x := ⟨_, rfl⟩
      rw [hwb] at WF
      have WFB := Lib.hid hwb
      clear hwb
      go_wp2_with fail
      refine WF.out.mono ?_
      rintro e w2 ⟨rfl, dd2, tt2⟩
      have D2 := Lib.hid dd2
      have T2 := Lib.hid ((TurnD.refl (d := d) (bm := bm) (S := S) (V := V) (ua := ua) BC.out).trans tt2)
      clear dd2 tt2 WF
      cases wb with
      | true =>
        have FIN : Hid (AppP B d bm S V ua w un most beh fal n b (.returned (.int .i64 7)) w2) := Lib.hid (Or.inr (Or.inl ⟨APF.out, WFB.out, rfl, _, _, _, D2.out, T2.out⟩))
        go_wp2
        go_ret
        exact FIN.out
      | false =>
        have R2 : Hid (RdC w2 ab (u8L b)) := Lib.hid (by
          by_cases hb0 : b = []
          · intro j u hj
            rw [hb0] at hj
            simp [u8L] at hj
          · exact HR.out.only T2.out.1 (fun g off e => HNM.out g off e hb0))
        have BX2 := Lib.hid D2.out.box
        have ld2 := BX2.out.lt
        have NF : Hid ((pS S n (gD S n ++ b)).length ≤ 16 ∧ (gD S n ++ b).length ≤ 2048) := Lib.hid (by
          have h1 := APF.out
          unfold apF at h1
          rw [Bool.or_eq_false_iff, decide_eq_false_iff_not] at h1
          obtain ⟨h2, h3⟩ := h1
          refine ⟨?_, by rw [List.length_append]; omega⟩
          rw [len_put D2.out.mp.ss]
          have h4 := D2.out.cnt
          have h5 := D2.out.mo
          cases hg : (gS S n).isSome with
          | true => simpa using h4
          | false =>
            rw [hg, Bool.not_false, Bool.true_and, decide_eq_false_iff_not] at h2
            simp
            omega)
        obtain ⟨N, hN⟩ : ∃ N, (gD S n ++ b).length = N := ⟨_, rfl⟩
        have hNs : L + m = N := by rw [← hN, List.length_append, hL, HM.out]
        obtain ⟨U, hU⟩ : ∃ U, un.length = U := ⟨_, rfl⟩
        have HUU := Lib.hid hU
        have hu2 : U ≤ 99999 := by omega
        have HZP : Hid (pcC un ++ (#[.int .i64 n, .int .i64 (m : Int)] : Array Value).toList = pcC (un ++ [(n, m)])) := Lib.hid (by rw [pcC_app]; rfl)
        have hL9 : L ≤ 2048 := hsg
        clear HR HNM HD BC HF2 HC9 HC8 HHAS HFB
        go_upto_region 8 with fail
        refine wp_region_last 8 (fun w' => w'.heap[d]? = w2.heap[d]?) (by kernel_rfl) (rfl) (fun hHeld hClosed => ?_)
        have BW := Lib.hid ((Below.refl w2.heap.size w2).drew)
        generalize w2.drew = wc at BW hHeld ⊢
        have D3 := Lib.hid (D2.out.later BW.out)
        have O3 := Lib.hid (lk_own D3.out.mp n)
        rw [hA, hC, hL] at O3
        have R3 := Lib.hid (R2.out.later BW.out)
        have szB : B ≤ wc.heap.size := Nat.le_trans (Nat.le_of_lt (Nat.lt_of_le_of_lt D2.out.dB D2.out.box.lt)) BW.out.size
        have ND : Hid (d < wc.heap.size ∧ some d ≠ A.map (·.block)) := Lib.hid ⟨D3.out.box.lt, fun e => by have h8 := O3.out; have h9 := own_block5 h8 e.symm; rw [h9] at h8; exact own_not_box h8 D3.out.box (by decide) rfl⟩
        have PUT : Hid (∀ a3 c3 w3, Own w3 B 5 1 a3 N c3 (u8L (gD S n ++ b)) → wc.grownBy w3 (A.map (·.block)) → (∀ g, a3 = some ⟨g, 0, none⟩ → A.map (·.block) = some g ∨ wc.heap.size ≤ g) → ∃ w', (Instr.mapUpdate 48 (.map (some bm)) (.int .i64 n) (.slice a3 N c3)).run Try.prog w3 = .ok () w' ∧ Mp w' B bm (pS S n (gD S n ++ b)) (setV V n a3 c3) none ∧ w3.mapTurned w' bm) := Lib.hid (fun a3 c3 w3 h1 h2 h3 => by rw [← hN] at h1 ⊢; rw [← hA] at h2 h3; exact D3.out.mp.put_row (Nat.le_trans D3.out.cnt (by decide)) hnw h1 h2 h3)
        have BXS : Hid (∀ w3 w4, wc.grownBy w3 (A.map (·.block)) → w3.mapTurned w4 bm → Box w4 d #[.int .i64 most, .map (some bm), .slice ua U uc, .int .i64 (wfH beh), .int .i64 (wfF beh fal)] 51) := Lib.hid (fun w3 w4 h1 h2 => by have h9 := D3.out.box_map (by rw [hA]; exact h1) h2; rw [hU] at h9; exact h9)
        have OUS : Hid (∀ w3 w4, wc.grownBy w3 (A.map (·.block)) → w3.mapTurned w4 bm → Own w4 B 54 2 ua U uc (pcC un)) := Lib.hid (fun w3 w4 h1 h2 => by have h9 := D3.out.own_map (by rw [hA]; exact h1) h2; rw [hU] at h9; exact h9)
        have ADD : Hid (∀ a3 c3 w3 w4, Own w3 B 5 1 a3 N c3 (u8L (gD S n ++ b)) → wc.grownBy w3 (A.map (·.block)) → (∀ g, a3 = some ⟨g, 0, none⟩ → A.map (·.block) = some g ∨ wc.heap.size ≤ g) → Mp w4 B bm (pS S n (gD S n ++ b)) (setV V n a3 c3) none → w3.mapTurned w4 bm → ∀ g5 c5 w5, Own w5 B 54 2 (some ⟨g5, 0, none⟩) (U + 1) c5 (pcC (un ++ [(n, m)])) → w4.grownBy w5 (ua.map (·.block)) → (ua.map (·.block) = some g5 ∨ g5 = w4.heap.size + 1) → AppP B d bm S V ua w un most beh fal n b (.returned (.int .i64 0)) (w5.setCell ⟨d, 2, none⟩ (.slice (some ⟨g5, 0, none⟩) (U + 1) c5))) := Lib.hid (fun a3 c3 w3 w4 h1 h2 h3 h4 h5 g5 c5 w5 h6 h7 h8 => by
          rw [← hA] at h2 h3
          rw [← hU] at h6 ⊢
          rw [← HM.out] at h6
          obtain ⟨k1, k2⟩ := D3.out.added (b := b) hnw NF.out.1 NF.out.2 h2 h4 h5 h3 h6 h7 h8
          exact Or.inr (Or.inr ⟨APF.out, WFB.out, rfl, _, _, _, k1, (T2.out.trans (TurnD.refl BW.out)).trans k2⟩))
        refine wpAnyL_take (i := 0) (v := ?_) rfl (by kernel_rfl) (by kernel_rfl) (by kernel_rfl) (by kernel_rfl) (fun _ _ _ h => h) (by kernel_rfl) hClosed (Or.inl ⟨by rfl, ?_⟩) hHeld (fun hClosed => ?_)
        rotate_left
        · intro wv hSw; go_simp; all_goals (with_reducible rfl)
        (try simp only [List.getElem_toArray, List.getElem_cons_zero, put_at, List.set])
        refine wpAnyL_take (i := 1) (v := ?_) rfl (by kernel_rfl) (by kernel_rfl) (by kernel_rfl) (by kernel_rfl) (fun _ _ _ h => h) (by kernel_rfl) hClosed (Or.inl ⟨by rfl, ?_⟩) hHeld (fun hClosed => ?_)
        rotate_left
        · intro wv hSw; go_simp; all_goals (with_reducible rfl)
        (try simp only [List.getElem_toArray, List.getElem_cons_succ, List.getElem_cons_zero, put_at, List.set])
        refine wpAnyL_take (i := 2) (v := ?_) rfl (by kernel_rfl) (by kernel_rfl) (by kernel_rfl) (by kernel_rfl) (fun _ _ _ h => h) (by kernel_rfl) hClosed (Or.inl ⟨by rfl, ?_⟩) hHeld (fun hClosed => ?_)
        rotate_left
        · intro wv hSw; go_simp; all_goals (with_reducible rfl)
        (try simp only [List.getElem_toArray, List.getElem_cons_succ, List.getElem_cons_zero, put_at, List.set])
        refine wpAnyL_take (i := 3) (v := ?_) rfl (by kernel_rfl) (by kernel_rfl) (by kernel_rfl) (by kernel_rfl) (fun _ _ _ h => h) (by kernel_rfl) hClosed (Or.inl ⟨by rfl, ?_⟩) hHeld (fun hClosed => ?_)
        rotate_left
        · intro wv hSw; have c1 := (cell_blk hSw 1).trans (BX2.out.cell 1); go_simp; all_goals (with_reducible rfl)
        (try simp only [List.getElem_toArray, List.getElem_cons_succ, List.getElem_cons_zero, put_at, List.set])
        refine wpAnyL_take (i := 4) (v := ?_) rfl (by kernel_rfl) (by kernel_rfl) (by kernel_rfl) (by kernel_rfl) (fun _ _ _ h => h) (by kernel_rfl) hClosed (Or.inl ⟨by rfl, ?_⟩) hHeld (fun hClosed => ?_)
        rotate_left
        · intro wv hSw; go_simp; all_goals (with_reducible rfl)
        (try simp only [List.getElem_toArray, List.getElem_cons_succ, List.getElem_cons_zero, put_at, List.set])
        refine wpAnyL_take (i := 5) (v := ?_) rfl (by kernel_rfl) (by kernel_rfl) (by kernel_rfl) (by kernel_rfl) (fun _ _ _ h => h) (by kernel_rfl) hClosed (Or.inl ⟨by rfl, ?_⟩) hHeld (fun hClosed => ?_)
        rotate_left
        · intro wv hSw; go_simp; all_goals (with_reducible rfl)
        (try simp only [List.getElem_toArray, List.getElem_cons_succ, List.getElem_cons_zero, put_at, List.set])
        refine wpAnyL_take (i := 6) (v := ?_) rfl (by kernel_rfl) (by kernel_rfl) (by kernel_rfl) (by kernel_rfl) (fun _ _ _ h => h) (by kernel_rfl) hClosed (Or.inl ⟨by rfl, ?_⟩) hHeld (fun hClosed => ?_)
        rotate_left
        · intro wv hSw; go_simp; all_goals (with_reducible rfl)
        (try simp only [List.getElem_toArray, List.getElem_cons_succ, List.getElem_cons_zero, put_at, List.set])
        refine wpAnyL_one (i := 7) rfl (by kernel_rfl) (by kernel_rfl) hClosed (fun KK hK => ?_)
        refine step_appE rowU8 rfl _ _ rfl B A L C (u8L (gD S n)) rfl O3.out ab m cb (u8L b) rfl (by rw [u8L_len, HM.out]) R3.out (u8L_one _) (by omega) (by decide) szB N hNs (u8L (gD S n ++ b)) (u8L_app _ _).symm ?_
        rintro a3 c3 w3 q1 q2 q3 q4
        refine hK.out _ _ ?_ (fun hClosed hHeld => ?_)
        · exact (q2.block d ND.out.1 ND.out.2).trans hHeld
        clear hK KK
        (first | simp only [List.getElem_toArray, List.getElem_cons_succ, List.getElem_cons_zero, put_at, List.set] | (try simp only [put_at, List.set]))
        obtain ⟨w4, q5, q6, q7⟩ := PUT.out a3 c3 w3 q1 q2 q4
        have BX4 := Lib.hid (BXS.out _ _ q2 q7)
        have OU4 := Lib.hid (OUS.out _ _ q2 q7)
        have FIN := Lib.hid (ADD.out a3 c3 w3 w4 q1 q2 q4 q6 q7)
        have sz4 : B ≤ w4.heap.size := Nat.le_trans (Nat.le_trans szB q2.size) q7.grown.size
        clear q1 q2 q3 q4 q6 q7 O3 R3 PUT BXS OUS ADD ND D3
        refine wpAnyL_last rfl (by kernel_rfl) (by kernel_rfl) (fun KK hK => ?_)
        go_simp
        refine hK.out _ _ ?_
        (try simp only [put_at, List.set])
        have e2 := BX4.out.cell 2
        have f2 := BX4.out.free 2
        have ld4 := BX4.out.lt
        clear q5
        go_wp2_with (at_builtin; refine wpList_app1 rowPc rfl _ _ rfl B ua U uc (pcC un) rfl OU4.out #[.int .i64 n, .int .i64 (m : Int)] rfl rfl (pc_one _ _) (by omega) (by decide) sz4 (U + 1) rfl (pcC (un ++ [(n, m)])) HZP.out ?_; rintro g5 c5 w5 p1 p2 p3 p4; have BX5 := Box.kept5 BX4.out p2 OU4.out; have f5 := BX5.free 2; have e5 := BX5.cell 2; have ld5 := BX5.lt; have FF := Lib.hid (FIN.out g5 c5 w5 p1 p2 p4); clear p1 p2 p3 p4 FIN BX5 BX4 OU4 e2 f2 ld4)
        go_ret
        exact FF.out

end
end Go.Proofs.Ytomeipjglnpciaa
