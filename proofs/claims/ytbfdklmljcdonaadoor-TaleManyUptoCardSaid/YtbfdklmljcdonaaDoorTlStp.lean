/- Package tale: the words of a step read. -/
import Derived.Test.YtbfdklmljcdonaaDoorTlRet
namespace Go.Proofs.YtbfdklmljcdonaaDoor
open Go Go.RowKit
set_option linter.unusedVariables false
set_option linter.unusedSimpArgs false
set_option maxRecDepth 10000

/-- What stands in memory while the words are read. -/
structure SM (w wr : World) (fb rb xb : Nat) (FA : Array Value) (kd : Int) (ns : List Int) (t : ByteArray) (hv : Value) : Prop where
  fbx : Box wr fb FA 38
  rbx : Box wr rb (xC 0 [] ByteArray.empty (.slice none 0 0)) 26
  xbx : Box wr xb (xC kd ns t hv) 26
  bel : Below w.heap.size w wr
  lo : w.heap.size ≤ rb ∧ w.heap.size ≤ xb
  ne : rb ≠ xb
section
variable {w wr w' : World} {fb rb xb : Nat} {FA : Array Value} {kd : Int} {ns : List Int} {t : ByteArray} {hv : Value}
theorem SM.later (h : SM w wr fb rb xb FA kd ns t hv) (hb : Below wr.heap.size wr w') : SM w w' fb rb xb FA kd ns t hv :=
  ⟨h.fbx.later hb, h.rbx.later hb, h.xbx.later hb, h.bel.trans (hb.mono h.bel.size), h.lo, h.ne⟩
theorem SM.fx (h : SM w wr fb rb xb FA kd ns t hv) : fb ≠ xb ∧ fb ≠ rb := ⟨box_other h.fbx h.xbx (by decide), box_other h.fbx h.rbx (by decide)⟩
/-- One cell of the step is written. -/
theorem SM.set (h : SM w wr fb rb xb FA kd ns t hv) (i : Nat) (v : Value) {ns' : List Int} {t' : ByteArray} {hv' : Value} (e : (xC kd ns t hv).setIfInBounds i v = xC kd ns' t' hv') : SM w (wr.setCell ⟨xb, i, none⟩ v) fb rb xb FA kd ns' t' hv' :=
  ⟨h.fbx.other h.fx.1 v, h.rbx.other h.ne v, e ▸ h.xbx.set i v, h.bel.setCell (p := ⟨xb, i, none⟩) h.lo.2 v, h.lo, h.ne⟩
/-- The step is handed back. -/
theorem SM.fin (h : SM w wr fb rb xb FA kd ns t hv) : Box (wr.setRow rb (xC kd ns t hv)) rb (xC kd ns t hv) 26 ∧ Below w.heap.size w (wr.setRow rb (xC kd ns t hv)) :=
  ⟨h.rbx.setRow _, below_row h.bel h.lo.1 _⟩
end
def StpP (f : Fm) (ws : List ByteArray) (w : World) (e : Ending) (w' : World) : Prop :=
  Below w.heap.size w w' ∧ ∃ (y : Stp) (ha : Option Addr) (n hc : Nat) (q : Bool), e = .returned (.tuple #[.agg (stA y.k y.a y.b y.c y.t ha n hc), .bool q]) ∧
    ((q = false ∧ stepF f (ws.map bl) = none) ∨ (q = true ∧ stepF f (ws.map bl) = some (spOf y) ∧ y.hs.length = n ∧ Own w' w.heap.size 36 2 ha n hc (hdV y.hs)))
theorem box_new_at {w : World} {cs : Array Value} {t : TypeId} {b : Nat} (h : b = w.heap.size) : Box (w.alloc (.cells cs t)) b cs t := by subst h; exact Box.new w cs t
theorem sm_new (w : World) (FA : Array Value) (fk : Int) (o : Obj) : SM w ((((w.alloc (.cells FA 38)).alloc (.cells (xC 0 [] ByteArray.empty (.slice none 0 0)) 26)).alloc (.cells (xC fk [] ByteArray.empty (.slice none 0 0)) 26)).alloc o) w.heap.size (w.heap.size + 1) (w.heap.size + 1 + 1) FA fk [] ByteArray.empty (.slice none 0 0) :=
  ⟨(((box_new_at rfl).alloc _).alloc _).alloc _, ((box_new_at (by simp)).alloc _).alloc _, (box_new_at (by simp)).alloc _, ((((Below.refl _ w).alloc (Nat.le_refl _) _).alloc (by simp) _).alloc (by simp; omega) _).alloc (by simp; omega) _, ⟨by omega, by omega⟩, by omega⟩
theorem prs_odd : ∀ (n : Nat) (ts : List Bt), ts.length ≤ n → ts.length % 2 ≠ 0 → prsW ts = none := by
  intro n
  induction n with
  | zero => intro ts h1 h2; omega
  | succ n ih =>
    intro ts h1 h2
    match ts with
    | [] => simp at h2
    | [a] => rfl
    | a :: b :: r =>
      unfold prsW
      rw [ih r (by simp at h1; omega) (by simp at h2; omega)]
      rfl
theorem fin_bad {f : Fm} {ns : List Int} {t : Bt} {ts : List Bt} (h : (f.hs = false ∧ 0 < ts.length) ∨ ts.length % 2 ≠ 0) : finW f ns t ts = none := by
  unfold finW
  split
  · rfl
  · rename_i hn
    rcases h with ⟨h1, h2⟩ | h
    · exfalso
      apply hn
      rw [h1]
      cases ts with
      | nil => simp at h2
      | cons a r => rfl
    · rw [prs_odd _ _ (Nat.le_refl _) h]
      rfl
theorem fin_good {f : Fm} {ns : List Int} {t : Bt} {ts : List Bt} (h : f.hs = false → ts.length = 0) : finW f ns t ts = (prsW ts).map fun hs => ⟨f.kind, ns[0]?.getD 0, ns[1]?.getD 0, ns[2]?.getD 0, t, hs⟩ := by
  unfold finW
  rw [if_neg]
  intro hc
  rw [Bool.and_eq_true] at hc
  cases hh : f.hs with
  | true => rw [hh] at hc; exact absurd hc.1 (by decide)
  | false =>
    have := List.eq_nil_of_length_eq_zero (h hh)
    rw [this] at hc
    exact absurd hc.2 (by decide)
def lenV : Value → Nat
  | .slice _ n _ => n
  | _ => 0
theorem only_cell {R : Nat → Prop} {w w' : World} {b o : Nat} (h : Only R w w') (hl : b < w.heap.size) (hne : ¬ R b) : w'.cell? ⟨b, o, none⟩ = w.cell? ⟨b, o, none⟩ := by
  unfold World.cell?
  dsimp only
  rw [h.block b hl hne]
theorem SM.only {w w7 wr : World} {fb rb xb : Nat} {FA : Array Value} {kd : Int} {ns : List Int} {t : ByteArray} {hv hv' : Value} (h : SM w w7 fb rb xb FA kd ns t hv) (ho : Only (fun q => q = xb) w7 wr) (hx : Box wr xb (xC kd ns t hv') 26) : SM w wr fb rb xb FA kd ns t hv' :=
  ⟨h.fbx.only ho h.fx.1, h.rbx.only ho h.ne, hx, h.bel.trans (ho.below h.bel.size (fun k hk => by subst hk; exact h.lo.2)), h.lo, h.ne⟩
theorem rowHd : RowTy Tryd.prog 24 36 2 32 := ⟨Tryd.underlying24, ⟨.agg #[.string ByteArray.empty, .string ByteArray.empty], by kernel_rfl, rfl⟩, by decide⟩
theorem ne_low {B g xb : Nat} (h : B ≤ g) (hx : xb < B) : g ≠ xb := by omega
/-- A row that lies beyond is appended to: the box, and what lay ahead, are as they were. -/
theorem row_out {w7 wr w9 : World} {xb n c size : Nat} {E T : TypeId} {a : Option Addr} {xs : List Value} {cs : Array Value} (p2 : wr.grownBy w9 (a.map (·.block))) (ho : Own wr w7.heap.size E size a n c xs) (hb : Box wr xb cs T) (hon : Only (fun q => q = xb) w7 wr) (hx : xb < w7.heap.size) :
    Box w9 xb cs T ∧ Only (fun q => q = xb) w7 w9 := by
  have key : ∀ k, a.map (·.block) = some k → w7.heap.size ≤ k := fun k hk => by
    rcases ho.form with ⟨e, _, _⟩ | ⟨g, e, h1, _⟩
    · rw [e] at hk; cases hk
    · rw [e] at hk
      injection hk with hk
      rw [← hk]
      exact h1
  have h1 : Only (fun q => w7.heap.size ≤ q) wr w9 := Only.of_grown p2 key
  exact ⟨hb.only h1 (by omega), hon.trans h1 (fun x hx => Or.inr hx)⟩
theorem xC_one (kd : Int) (ns : List Int) (t : ByteArray) (hv : Value) (h : hv.oneCell' = true) : (xC kd ns t hv).all (·.oneCell') = true := by
  rw [Array.all_eq_true']
  intro v hm
  simp only [xC, List.mem_toArray, List.mem_cons, List.not_mem_nil, or_false] at hm
  rcases hm with rfl | rfl | rfl | rfl | rfl | rfl
  all_goals first | rfl | exact h
theorem Wrd.keep {w w' : World} {a : Option Addr} {n cap : Nat} {ws : List ByteArray} (h : Wrd w a n cap ws) (hb : ∀ b off, a = some ⟨b, off, none⟩ → w'.heap[b]? = w.heap[b]?) : Wrd w' a n cap ws :=
  ⟨fun j u hj => by
    obtain ⟨b, off, e, hc⟩ := h.rd j u hj
    refine ⟨b, off, e, ?_⟩
    unfold World.cell? at hc ⊢
    dsimp only at hc ⊢
    rw [hb b off e]
    exact hc, h.len, h.cap⟩
set_option maxHeartbeats 4000000 in
theorem step_at (f : Fm) (hf : f.n ≤ 3) (ws : List ByteArray) (N cap : Nat) (a : Option Addr) (hN2 : N ≤ 3000000) (hws : ∀ x ∈ ws, x.size ≤ 3000000) (w : World) (hr : Wrd w a N cap ws) (hT : TabT w) :
    Calls Tryd.prog 23 #[.agg (fmA f), .slice a N cap] w (StpP f ws w) := by
  obtain ⟨fk, fw, fn, ft, fh⟩ := f
  dsimp only at hf
  have HT := Lib.hid hT
  have HR := Lib.hid hr
  have HW := Lib.hid hws
  clear hT hr hws
  unfold fmA
  obtain ⟨fws, hfws⟩ : ∃ s, stB fw = s := ⟨_, rfl⟩
  dsimp only
  rw [hfws]
  clear hfws
  go_enter Tryd.func23, Tryd.ntmps23
  go_upto_region 3 with fail
  refine code_forget (fun W => Hid (SM w W w.heap.size (w.heap.size + 1) (w.heap.size + 1 + 1) #[.int .i64 fk, .string fws, .int .i64 (fn : Int), .bool ft, .bool fh] fk [] ByteArray.empty (.slice none 0 0)) ∧ Hid (Box W (w.heap.size + 1 + 1 + 1) #[.pointer (some ⟨w.heap.size + 1 + 1, 1, none⟩), .pointer (some ⟨w.heap.size + 1 + 1, 2, none⟩), .pointer (some ⟨w.heap.size + 1 + 1, 3, none⟩)] 73)) ⟨Lib.hid (sm_new w #[.int .i64 fk, .string fws, .int .i64 (fn : Int), .bool ft, .bool fh] fk _), Lib.hid (box_new_at (by simp))⟩ ?_
  obtain ⟨fb, hfb⟩ : ∃ b, w.heap.size = b := ⟨_, rfl⟩
  obtain ⟨rb, hrb⟩ : ∃ b, fb + 1 = b := ⟨_, rfl⟩
  obtain ⟨xb, hxb⟩ : ∃ b, rb + 1 = b := ⟨_, rfl⟩
  obtain ⟨pb, hpb⟩ : ∃ b, xb + 1 = b := ⟨_, rfl⟩
  rw [hfb, hrb, hxb, hpb]
  rintro w1 ⟨HM0, HP0⟩
  clear hfb hrb hxb
  go_wp2_with fail
  go_loopw [1, 24] (fun vw vk wr => ∃ (k m : Nat) (ns : List Int) (ak : Option Addr) (ck : Nat) (wk : List ByteArray), k ≤ fn ∧ m ≤ N ∧ vk = .int .i64 (k : Int) ∧ vw = .slice ak m ck ∧ Hid (SM w wr fb rb xb #[.int .i64 fk, .string fws, .int .i64 (fn : Int), .bool ft, .bool fh] fk ns ByteArray.empty (.slice none 0 0)) ∧ Hid (Box wr pb #[.pointer (some ⟨xb, 1, none⟩), .pointer (some ⟨xb, 2, none⟩), .pointer (some ⟨xb, 3, none⟩)] 73) ∧ Hid (Wrd w ak m ck wk) ∧ Hid (ns.length = k) ∧ Hid (∀ y ∈ wk, y.size ≤ 3000000) ∧ Hid (numsW fn (ws.map bl) = (numsW (fn - k) (wk.map bl)).map fun p => (ns ++ p.1, p.2))) (fun _ vk _ => fn - (intOf vk).toNat)
  case atStart => exact ⟨0, N, [], a, cap, ws, by omega, by omega, rfl, rfl, HM0, HP0, HR, Lib.hid rfl, HW, Lib.hid (by simp)⟩
  case round =>
    obtain ⟨k, m, ns, ak, ck, wk, hk, hmN, rfl, rfl, HM, HP, HWk, HNS, HWX, HNW⟩ := hrel
    clear HM0 HP0
    by_cases hlt : k < fn
    · have hkd : decide ((k : Int) < (fn : Int)) = true := decide_eq_true (by omega)
      have hk0 : (0 : Int) ≤ (k : Int) := by omega
      have hk1 : (k : Int) < (fn : Int) := by omega
      have hp0 : wr.cell? ⟨pb, k, none⟩ = some (.pointer (some ⟨xb, 1 + k, none⟩)) := by
        have h9 := HP.out.cell k
        rw [h9]
        have : k = 0 ∨ k = 1 ∨ k = 2 := by omega
        rcases this with rfl | rfl | rfl <;> rfl
      cases wk with
      | nil =>
        have hm0 : m = 0 := HWk.out.len.symm
        subst hm0
        have HNO : Hid (stepF ⟨fk, fw, fn, ft, fh⟩ (ws.map bl) = none) := Lib.hid (by
          unfold stepF
          dsimp only
          rw [HNW.out, show fn - k = (fn - k - 1) + 1 by omega]
          rfl)
        go_upto_region 6 with fail
        refine wp_region_lit ?_
        refine wpList_loadv rfl rfl rfl (step_row HM.out.xbx rfl) ?_
        refine wpList_storeRow rfl rfl rfl rfl HM.out.rbx rfl (by kernel_rfl) (xC_one _ _ _ _ rfl) ?_
        have FIN := Lib.hid HM.out.fin
        go_wp2
        refine bodyPost_ret (results_cell_tmp Tryd.results23 rfl (step_row FIN.out.1 rfl)) rfl ?_
        exact ⟨FIN.out.2, ⟨fk, ns[0]?.getD 0, ns[1]?.getD 0, ns[2]?.getD 0, ByteArray.empty, []⟩, none, 0, 0, false, rfl, Or.inl ⟨rfl, HNO.out⟩⟩
      | cons x wk =>
        obtain ⟨bb, off, a', rfl, hc0, hsl, hw', hn1, ha'⟩ := HWk.out.next
        have HW' := Lib.hid hw'
        have dl : ((m : Int) == 0) = false := by
          rw [beq_eq_false_iff_ne]
          omega
        have hm1 : (0 : Int) < (m : Int) := by omega
        have hxs := HWX.out x (List.mem_cons_self ..)
        have HWX2 : Hid (∀ y ∈ wk, y.size ≤ 3000000) := Lib.hid (fun y hy => HWX.out y (List.mem_cons_of_mem _ hy))
        have hc1 := (HM.out.bel.cell (World.block_lt_of_cell? _ _ hc0)).trans hc0
        have HTR := Lib.hid (HT.out.later HM.out.bel)
        clear hc0 hw' HWk HWX
        go_wp2_with fail
        refine (number_at x hxs wr HTR.out).mono ?_
        rintro e w2 ⟨v, b, rfl, b2, hu⟩
        have HU := Lib.hid hu
        have HM2 := Lib.hid (HM.out.later b2)
        have HP2 := Lib.hid (HP.out.later b2)
        clear hu b2 hc1 hp0 HM HP HTR
        cases b with
        | false =>
          have HNO : Hid (stepF ⟨fk, fw, fn, ft, fh⟩ (ws.map bl) = none) := Lib.hid (by
            unfold stepF
            dsimp only
            rw [HNW.out, show fn - k = (fn - k - 1) + 1 by omega]
            rw [List.map_cons, numsW, HU.out]
            rfl)
          go_upto_region 9 with fail
          refine wp_region_lit ?_
          refine wpList_loadv rfl rfl rfl (step_row HM2.out.xbx rfl) ?_
          refine wpList_storeRow rfl rfl rfl rfl HM2.out.rbx rfl (by kernel_rfl) (xC_one _ _ _ _ rfl) ?_
          have FIN := Lib.hid HM2.out.fin
          go_wp2
          refine bodyPost_ret (results_cell_tmp Tryd.results23 rfl (step_row FIN.out.1 rfl)) rfl ?_
          exact ⟨FIN.out.2, ⟨fk, ns[0]?.getD 0, ns[1]?.getD 0, ns[2]?.getD 0, ByteArray.empty, []⟩, none, 0, 0, false, rfl, Or.inl ⟨rfl, HNO.out⟩⟩
        | true =>
          have HNW2 : Hid (numsW fn (ws.map bl) = (numsW (fn - (k + 1)) (wk.map bl)).map fun p => ((ns ++ [v]) ++ p.1, p.2)) := Lib.hid (by
            rw [HNW.out, show fn - k = (fn - (k + 1)) + 1 by omega, List.map_cons, numsW, HU.out, if_pos rfl]
            simp only
            rw [Option.map_map]
            congr 1
            funext p
            simp)
          have HNS2 : Hid ((ns ++ [v]).length = k + 1) := Lib.hid (by rw [List.length_append, HNS.out]; rfl)
          obtain ⟨yv, gx⟩ : ∃ y, w2.cell? ⟨xb, 1 + k, none⟩ = some (.int .i64 y) := by
            rw [HM2.out.xbx.cell]
            have : k = 0 ∨ k = 1 ∨ k = 2 := by omega
            rcases this with rfl | rfl | rfl <;> exact ⟨_, rfl⟩
          have fx := HM2.out.xbx.free (1 + k)
          have lx := HM2.out.xbx.lt
          have HM3 := Lib.hid (HM2.out.set (1 + k) (.int .i64 v) (xC_set fk ns ByteArray.empty (.slice none 0 0) k HNS.out (by omega) v))
          have HP3 := Lib.hid (HP2.out.other (a := ⟨xb, 1 + k, none⟩) (show pb ≠ xb by omega) (.int .i64 v))
          clear HNW HNS HM2 HP2 HU
          go_wp2
          go_roundw
          case rel => exact ⟨k + 1, m - 1, ns ++ [v], a', ck - 1, wk, by omega, by omega, by go_num, rfl, HM3, HP3, HW', HNS2, HWX2, HNW2⟩
          case measure => simp [intOf]; omega
    · have hkd : decide ((k : Int) < (fn : Int)) = false := decide_eq_false (by omega)
      have HNW2 : Hid (numsW fn (ws.map bl) = some (ns, wk.map bl)) := Lib.hid (by rw [HNW.out, show fn - k = 0 by omega]; simp [numsW])
      have HWr := Lib.hid (HWk.out.rd.later HM.out.bel)
      clear HNW HP
      go_wp2_with fail
      refine (decodeAll_at wk m HWk.out.len (by omega) HWX.out ak ck wr HWr.out).mono ?_
      rintro e w5 (⟨hd, ⟨at9, n9, c9, rfl⟩, b5⟩ | ⟨ts, at9, c9, n9, hd, rfl, hl9, ho9, b5⟩)
      · have HNO : Hid (stepF ⟨fk, fw, fn, ft, fh⟩ (ws.map bl) = none) := Lib.hid (by
          unfold stepF
          dsimp only
          rw [HNW2.out]
          simp only
          rw [hd])
        have HM5 := Lib.hid (HM.out.later b5)
        clear hd b5 HM
        go_upto_region 15 with fail
        refine wp_region_lit ?_
        refine wpList_loadv rfl rfl rfl (step_row HM5.out.xbx rfl) ?_
        refine wpList_storeRow rfl rfl rfl rfl HM5.out.rbx rfl (by kernel_rfl) (xC_one _ _ _ _ rfl) ?_
        have FIN := Lib.hid HM5.out.fin
        go_wp2
        refine bodyPost_ret (results_cell_tmp Tryd.results23 rfl (step_row FIN.out.1 rfl)) rfl ?_
        exact ⟨FIN.out.2, ⟨fk, ns[0]?.getD 0, ns[1]?.getD 0, ns[2]?.getD 0, ByteArray.empty, []⟩, none, 0, 0, false, rfl, Or.inl ⟨rfl, HNO.out⟩⟩
      · have HD := Lib.hid hd
        have HM5 := Lib.hid (HM.out.later b5)
        have hn9 : n9 ≤ 3000000 := by
          have h9 := decsW_some hd
          have h8 := congrArg List.length h9
          rw [List.length_map, List.length_map, List.length_map, HWk.out.len, hl9] at h8
          omega
        have HSF : Hid (stepF ⟨fk, fw, fn, ft, fh⟩ (ws.map bl) = textW ⟨fk, fw, fn, ft, fh⟩ ns (ts.map bl)) := Lib.hid (by
          unfold stepF
          dsimp only
          rw [HNW2.out]
          simp only
          rw [hd])
        have HW9 : Hid (Wrd w5 at9 n9 c9 ts) := Lib.hid ⟨rdc_own ho9 (by decide), hl9, ho9.cap_le⟩
        have HNX : Hid (∀ b off, at9 = some ⟨b, off, none⟩ → b ≠ xb ∧ b < w5.heap.size) := Lib.hid (fun b off e => by
          rcases ho9.form with ⟨e2, _, _⟩ | ⟨g, e2, _, hg⟩
          · rw [e2] at e; cases e
          · rw [e2] at e
            injection e with e
            injection e with e _ _
            subst e
            rw [e2] at ho9
            exact ⟨own_not_box ho9 HM5.out.xbx (by decide), hg⟩)
        clear hd b5 ho9 hl9 HM HWr HWk HWX HNW2
        have f3 := HM5.out.fbx.cell 3
        have lf := HM5.out.fbx.lt
        go_upto_if 57 with fail
        go_cut [11] (fun vt wx => ∃ (a7 : Option Addr) (n7 c7 : Nat) (tt : ByteArray) (ts2 : List ByteArray), vt = .slice a7 n7 c7 ∧ n7 ≤ 3000000 ∧ Hid (SM w wx fb rb xb #[.int .i64 fk, .string fws, .int .i64 (fn : Int), .bool ft, .bool fh] fk ns tt (.slice none 0 0)) ∧ Hid (Wrd wx a7 n7 c7 ts2) ∧ Hid (∀ b off, a7 = some ⟨b, off, none⟩ → b ≠ xb ∧ b < wx.heap.size) ∧ Hid (textW ⟨fk, fw, fn, ft, fh⟩ ns (ts.map bl) = finW ⟨fk, fw, fn, ft, fh⟩ ns (bl tt) (ts2.map bl)))
        case first =>
          cases ft with
          | false =>
            have HFN : Hid (textW ⟨fk, fw, fn, false, fh⟩ ns (ts.map bl) = finW ⟨fk, fw, fn, false, fh⟩ ns (bl ByteArray.empty) (ts.map bl)) := Lib.hid rfl
            go_wp2
            go_meet
            exact ⟨at9, n9, c9, ByteArray.empty, ts, rfl, hn9, HM5, HW9, HNX, HFN⟩
          | true =>
            cases ts with
            | nil =>
              have hn0 : n9 = 0 := HW9.out.len.symm
              subst hn0
              have HNO : Hid (stepF ⟨fk, fw, fn, true, fh⟩ (ws.map bl) = none) := Lib.hid (by rw [HSF.out]; rfl)
              go_upto_region 18 with fail
              refine wp_region_lit ?_
              refine wpList_loadv rfl rfl rfl (step_row HM5.out.xbx rfl) ?_
              refine wpList_storeRow rfl rfl rfl rfl HM5.out.rbx rfl (by kernel_rfl) (xC_one _ _ _ _ rfl) ?_
              have FIN := Lib.hid HM5.out.fin
              go_wp2
              refine bodyPost_ret (results_cell_tmp Tryd.results23 rfl (step_row FIN.out.1 rfl)) rfl ?_
              exact ⟨FIN.out.2, ⟨fk, ns[0]?.getD 0, ns[1]?.getD 0, ns[2]?.getD 0, ByteArray.empty, []⟩, none, 0, 0, false, rfl, Or.inl ⟨rfl, HNO.out⟩⟩
            | cons tt ts2 =>
              obtain ⟨bb, off, a', rfl, hc0, hsl, hw', hn1, ha'⟩ := HW9.out.next
              have dl : ((n9 : Int) == 0) = false := by
                rw [beq_eq_false_iff_ne]
                omega
              have hm1 : (0 : Int) < (n9 : Int) := by omega
              have HFN : Hid (textW ⟨fk, fw, fn, true, fh⟩ ns ((tt :: ts2).map bl) = finW ⟨fk, fw, fn, true, fh⟩ ns (bl tt) (ts2.map bl)) := Lib.hid rfl
              obtain ⟨hbx, hbl⟩ := HNX.out bb off rfl
              have HM6 := Lib.hid (HM5.out.set 4 (.string tt) (show _ = xC fk ns tt (.slice none 0 0) from rfl))
              have HW6 : Hid (Wrd (w5.setCell ⟨xb, 4, none⟩ (.string tt)) a' (n9 - 1) (c9 - 1) ts2) := Lib.hid (hw'.keep (fun b o e => by have h9 := ha' b o e; subst h9; exact Below.heap_setCell w5 ⟨xb, 4, none⟩ (.string tt) b hbx))
              have HNX6 : Hid (∀ b off, a' = some ⟨b, off, none⟩ → b ≠ xb ∧ b < (w5.setCell ⟨xb, 4, none⟩ (.string tt)).heap.size) := Lib.hid (fun b o e => by have h9 := ha' b o e; subst h9; exact ⟨hbx, by simpa [World.setCell] using hbl⟩)
              have g4 := HM5.out.xbx.cell 4
              have h4 := HM5.out.xbx.free 4
              have lx := HM5.out.xbx.lt
              clear HM5 HW9 HNX hw'
              go_wp2
              go_meet
              exact ⟨a', n9 - 1, c9 - 1, tt, ts2, rfl, by omega, HM6, HW6, HNX6, HFN⟩
        case rest =>
          obtain ⟨a7, n7, c7, tt, ts2, rfl, hn7, HM7, HW7, HNX7, HFN⟩ := hcut
          obtain ⟨w7, hw7⟩ : ∃ W, wc = W := ⟨_, rfl⟩
          rw [hw7] at HM7 HW7 HNX7 ⊢
          clear hw7 HM5 HW9 HNX f3 lf HD
          have HSF7 : Hid (stepF ⟨fk, fw, fn, ft, fh⟩ (ws.map bl) = finW ⟨fk, fw, fn, ft, fh⟩ ns (bl tt) (ts2.map bl)) := Lib.hid (by rw [HSF.out, HFN.out])
          clear HSF HFN
          have HL7 := Lib.hid HW7.out.len
          have f4 := HM7.out.fbx.cell 4
          have lf := HM7.out.fbx.lt
          by_cases hbad : (fh = false ∧ 0 < n7) ∨ n7 % 2 ≠ 0
          · have HNO : Hid (stepF ⟨fk, fw, fn, ft, fh⟩ (ws.map bl) = none) := Lib.hid (by
              rw [HSF7.out]
              exact fin_bad (by rw [List.length_map, HL7.out]; exact hbad))
            have dz : decide (0 < (n7 : Int)) = decide (0 < n7) := by rw [decide_eq_decide]; omega
            have hmod : ((n7 : Int).tmod 2 != 0) = decide (n7 % 2 ≠ 0) := by rw [Int.tmod_eq_emod_of_nonneg (by omega), Bool.eq_iff_iff, bne_iff_ne, decide_eq_true_iff]; omega
            have hmod2 : ((n7 : Int) % 2 != 0) = decide (n7 % 2 ≠ 0) := by rw [Bool.eq_iff_iff, bne_iff_ne, decide_eq_true_iff]; omega
            by_cases h0 : 0 < n7
            · have d0 : decide (0 < (n7 : Int)) = true := decide_eq_true (by omega)
              cases fh with
              | false =>
                go_upto_region 22 with fail
                refine wp_region_lit ?_
                refine wpList_loadv rfl rfl rfl (step_row HM7.out.xbx rfl) ?_
                refine wpList_storeRow rfl rfl rfl rfl HM7.out.rbx rfl (by kernel_rfl) (xC_one _ _ _ _ rfl) ?_
                have FIN := Lib.hid HM7.out.fin
                go_wp2
                refine bodyPost_ret (results_cell_tmp Tryd.results23 rfl (step_row FIN.out.1 rfl)) rfl ?_
                exact ⟨FIN.out.2, ⟨fk, ns[0]?.getD 0, ns[1]?.getD 0, ns[2]?.getD 0, tt, []⟩, none, 0, 0, false, rfl, Or.inl ⟨rfl, HNO.out⟩⟩
              | true =>
                have hodd : n7 % 2 ≠ 0 := by rcases hbad with h | h; · exact absurd h.1 (by decide)
                                             · exact h
                have d2 : ((n7 : Int) % 2 != 0) = true := by rw [hmod2]; exact decide_eq_true hodd
                go_upto_region 22 with fail
                refine wp_region_lit ?_
                refine wpList_loadv rfl rfl rfl (step_row HM7.out.xbx rfl) ?_
                refine wpList_storeRow rfl rfl rfl rfl HM7.out.rbx rfl (by kernel_rfl) (xC_one _ _ _ _ rfl) ?_
                have FIN := Lib.hid HM7.out.fin
                go_wp2
                refine bodyPost_ret (results_cell_tmp Tryd.results23 rfl (step_row FIN.out.1 rfl)) rfl ?_
                exact ⟨FIN.out.2, ⟨fk, ns[0]?.getD 0, ns[1]?.getD 0, ns[2]?.getD 0, tt, []⟩, none, 0, 0, false, rfl, Or.inl ⟨rfl, HNO.out⟩⟩
            · have : n7 = 0 := by omega
              subst this
              rcases hbad with h | h
              · exact absurd h.2 (by omega)
              · exact absurd rfl h
          · have hgood1 : fh = false → n7 = 0 := fun h => by
              by_cases h0 : 0 < n7
              · exact absurd (Or.inl ⟨h, h0⟩) hbad
              · omega
            have hgood2 : n7 % 2 = 0 := by
              by_cases h0 : n7 % 2 = 0
              · exact h0
              · exact absurd (Or.inr h0) hbad
            have hmod2 : ((n7 : Int) % 2 != 0) = false := by rw [Bool.eq_false_iff]; intro h; rw [bne_iff_ne] at h; omega
            have HFI : Hid (finW ⟨fk, fw, fn, ft, fh⟩ ns (bl tt) (ts2.map bl) = (prsW (ts2.map bl)).map fun hs => ⟨fk, ns[0]?.getD 0, ns[1]?.getD 0, ns[2]?.getD 0, bl tt, hs⟩) := Lib.hid (fin_good (by
              rw [List.length_map, HL7.out]
              exact hgood1))
            clear hbad
            go_upto_region 21 with fail
            go_cut [81] (fun v wx => v = .bool false ∧ wx = w7)
            case first =>
              by_cases h0 : 0 < n7
              · have d0 : decide (0 < (n7 : Int)) = true := decide_eq_true (by omega)
                have hfh : fh = true := by cases hh : fh with
                  | true => rfl
                  | false => exact absurd (hgood1 hh) (by omega)
                subst hfh
                go_wp2
                go_meet
                exact ⟨rfl, rfl⟩
              · have : n7 = 0 := by omega
                subst this
                go_wp2
                go_meet
                exact ⟨rfl, rfl⟩
            case rest =>
              obtain ⟨rfl, hwc⟩ := hcut
              subst hwc
              clear f4 lf hmod2 hgood1
              have HZ0 := Lib.hid (Own.nil wc wc.heap.size 36 2)
              have HXB0 := Lib.hid HM7.out.xbx
              have HOn0 := Lib.hid (Only.refl (fun q => q = xb) wc)
              obtain ⟨w7, hw7⟩ : ∃ W, wc = W := ⟨_, rfl⟩
              rw [hw7] at HM7 HW7 HNX7 HZ0 HXB0 HOn0 ⊢
              clear hw7
              go_wp2_with fail
              go_loopw [11] (fun vt wr => ∃ (n k : Nat) (at3 : Option Addr) (c3 : Nat) (ts3 : List ByteArray) (hs : List (ByteArray × ByteArray)) (ha : Option Addr) (hc : Nat), n % 2 = 0 ∧ n + 2 * k = n7 ∧ vt = .slice at3 n c3 ∧ Hid (Wrd w7 at3 n c3 ts3) ∧ Hid (∀ b off, at3 = some ⟨b, off, none⟩ → b ≠ xb ∧ b < w7.heap.size) ∧ Hid (Only (fun q => q = xb) w7 wr) ∧ Hid (Box wr xb (xC fk ns tt (.slice ha k hc)) 26) ∧ Hid (Own wr w7.heap.size 36 2 ha k hc (hdV hs)) ∧ Hid (hs.length = k) ∧ Hid (prsW (ts2.map bl) = (prsW (ts3.map bl)).map (hs.map hdB ++ ·))) (fun vt _ => lenV vt)
              case atStart => exact ⟨n7, 0, a7, c7, ts2, [], none, 0, hgood2, by omega, rfl, HW7, HNX7, HOn0, HXB0, HZ0, Lib.hid rfl, Lib.hid (by simp)⟩
              case round =>
                obtain ⟨n, k, at3, c3, ts3, hs, ha, hc, hn2, hnk, rfl, HW3, HNX3, HOn, HXB, HO, HLS, HPR⟩ := hrel
                clear HZ0 HXB0 HOn0
                have HNK := Lib.hid hnk
                have hk5 : k ≤ 3000000 := by omega
                clear hnk
                have HMr := Lib.hid (HM7.out.only HOn.out HXB.out)
                by_cases h0 : 0 < n
                · have d0 : decide (0 < (n : Int)) = true := decide_eq_true (by omega)
                  obtain ⟨x, y, ts4, rfl⟩ : ∃ x y r, ts3 = x :: y :: r := by
                    have h9 := HW3.out.len
                    match ts3, h9 with
                    | [], h9 => simp at h9; omega
                    | [x], h9 => simp at h9; omega
                    | x :: y :: r, _ => exact ⟨x, y, r, rfl⟩
                  obtain ⟨bb, off, a', rfl, hc0, hc1, hsl, hw', hn1, ha'⟩ := HW3.out.next2
                  obtain ⟨hbx, hbl⟩ := HNX3.out bb off rfl
                  have HCX := Lib.hid (fun (W : World) (hW : Only (fun q => q = xb) w7 W) => And.intro ((only_cell hW hbl hbx).trans hc0) ((only_cell hW hbl hbx (o := off + 1)).trans hc1))
                  have HW4 := Lib.hid hw'
                  have HNX4 : Hid (∀ b off, a' = some ⟨b, off, none⟩ → b ≠ xb ∧ b < w7.heap.size) := Lib.hid (fun b o e => by have h9 := ha' b o e; subst h9; exact ⟨hbx, hbl⟩)
                  have HPR4 : Hid (prsW (ts2.map bl) = (prsW (ts4.map bl)).map ((hs ++ [(x, y)]).map hdB ++ ·)) := Lib.hid (by
                    rw [HPR.out, List.map_cons, List.map_cons, prsW, Option.map_map]
                    congr 1
                    funext z
                    simp [hdB])
                  have HLS4 : Hid ((hs ++ [(x, y)]).length = k + 1) := Lib.hid (by rw [List.length_append, HLS.out]; rfl)
                  have HZ : Hid (hdV hs ++ [.string x, .string y] = hdV (hs ++ [(x, y)])) := Lib.hid (by unfold hdV; rw [List.flatMap_append]; rfl)
                  have HNK4 : Hid (n - 2 + 2 * (k + 1) = n7) := Lib.hid (by have := HNK.out; omega)
                  have i0 : (0 : Int) < (n : Int) := by omega
                  have i1 : (1 : Int) < (n : Int) := by omega
                  have hszB := HOn.out.size
                  clear hc0 hc1 hw' ha' HW3 HNX3 HPR HLS
                  go_upto_region 24 with fail
                  refine wp_region_last 12 (fun w' => Box w' xb (xC fk ns tt (.slice ha k hc)) 26 ∧ Only (fun q => q = xb) w7 w') (by kernel_rfl) (⟨HXB.out.drew, HOn.out.drewN 1⟩) (fun hHeld hClosed => ?_)
                  refine wpAnyL_take (i := 0) (v := ?_) rfl (by kernel_rfl) (by kernel_rfl) (by kernel_rfl) (by kernel_rfl) (fun _ _ _ h => h) (by kernel_rfl) hClosed (Or.inl ⟨by rfl, ?_⟩) hHeld (fun hClosed => ?_)
                  rotate_left
                  · intro wv hSw; go_simp; all_goals (with_reducible rfl)
                  (try simp only [List.getElem_toArray, List.getElem_cons_zero, put_at, List.set])
                  refine wpAnyL_take (i := 1) (v := ?_) rfl (by kernel_rfl) (by kernel_rfl) (by kernel_rfl) (by kernel_rfl) (fun _ _ _ h => h) (by kernel_rfl) hClosed (Or.inl ⟨by rfl, ?_⟩) hHeld (fun hClosed => ?_)
                  rotate_left
                  · intro wv hSw; have x5 : wv.cell? ⟨xb, 5, none⟩ = some (.slice ha k hc) := hSw.1.cell 5; have lx := hSw.1.lt; obtain ⟨hq0, hq1⟩ := HCX.out _ hSw.2; go_simp; all_goals (with_reducible rfl)
                  (try simp only [List.getElem_toArray, List.getElem_cons_succ, List.getElem_cons_zero, put_at, List.set])
                  refine wpAnyL_take (i := 2) (v := ?_) rfl (by kernel_rfl) (by kernel_rfl) (by kernel_rfl) (by kernel_rfl) (fun _ _ _ h => h) (by kernel_rfl) hClosed (Or.inl ⟨by rfl, ?_⟩) hHeld (fun hClosed => ?_)
                  rotate_left
                  · intro wv hSw; go_simp; all_goals (with_reducible rfl)
                  (try simp only [List.getElem_toArray, List.getElem_cons_succ, List.getElem_cons_zero, put_at, List.set])
                  refine wpAnyL_take (i := 3) (v := ?_) rfl (by kernel_rfl) (by kernel_rfl) (by kernel_rfl) (by kernel_rfl) (fun _ _ _ h => h) (by kernel_rfl) hClosed (Or.inl ⟨by rfl, ?_⟩) hHeld (fun hClosed => ?_)
                  rotate_left
                  · intro wv hSw; go_simp; all_goals (with_reducible rfl)
                  (try simp only [List.getElem_toArray, List.getElem_cons_succ, List.getElem_cons_zero, put_at, List.set])
                  refine wpAnyL_take (i := 4) (v := ?_) rfl (by kernel_rfl) (by kernel_rfl) (by kernel_rfl) (by kernel_rfl) (fun _ _ _ h => h) (by kernel_rfl) hClosed (Or.inl ⟨by rfl, ?_⟩) hHeld (fun hClosed => ?_)
                  rotate_left
                  · intro wv hSw; have x5 : wv.cell? ⟨xb, 5, none⟩ = some (.slice ha k hc) := hSw.1.cell 5; have lx := hSw.1.lt; obtain ⟨hq0, hq1⟩ := HCX.out _ hSw.2; go_simp; all_goals (with_reducible rfl)
                  (try simp only [List.getElem_toArray, List.getElem_cons_succ, List.getElem_cons_zero, put_at, List.set])
                  refine wpAnyL_take (i := 5) (v := ?_) rfl (by kernel_rfl) (by kernel_rfl) (by kernel_rfl) (by kernel_rfl) (fun _ _ _ h => h) (by kernel_rfl) hClosed (Or.inl ⟨by rfl, ?_⟩) hHeld (fun hClosed => ?_)
                  rotate_left
                  · intro wv hSw; go_simp; all_goals (with_reducible rfl)
                  (try simp only [List.getElem_toArray, List.getElem_cons_succ, List.getElem_cons_zero, put_at, List.set])
                  refine wpAnyL_take (i := 6) (v := ?_) rfl (by kernel_rfl) (by kernel_rfl) (by kernel_rfl) (by kernel_rfl) (fun _ _ _ h => h) (by kernel_rfl) hClosed (Or.inl ⟨by rfl, ?_⟩) hHeld (fun hClosed => ?_)
                  rotate_left
                  · intro wv hSw; go_simp; all_goals (with_reducible rfl)
                  (try simp only [List.getElem_toArray, List.getElem_cons_succ, List.getElem_cons_zero, put_at, List.set])
                  refine wpAnyL_take (i := 7) (v := ?_) rfl (by kernel_rfl) (by kernel_rfl) (by kernel_rfl) (by kernel_rfl) (fun _ _ _ h => h) (by kernel_rfl) hClosed (Or.inl ⟨by rfl, ?_⟩) hHeld (fun hClosed => ?_)
                  rotate_left
                  · intro wv hSw; have x5 : wv.cell? ⟨xb, 5, none⟩ = some (.slice ha k hc) := hSw.1.cell 5; have lx := hSw.1.lt; obtain ⟨hq0, hq1⟩ := HCX.out _ hSw.2; go_simp; all_goals (with_reducible rfl)
                  (try simp only [List.getElem_toArray, List.getElem_cons_succ, List.getElem_cons_zero, put_at, List.set])
                  refine wpAnyL_take (i := 8) (v := ?_) rfl (by kernel_rfl) (by kernel_rfl) (by kernel_rfl) (by kernel_rfl) (fun _ _ _ h => h) (by kernel_rfl) hClosed (Or.inl ⟨by rfl, ?_⟩) hHeld (fun hClosed => ?_)
                  rotate_left
                  · intro wv hSw; go_simp; all_goals (with_reducible rfl)
                  (try simp only [List.getElem_toArray, List.getElem_cons_succ, List.getElem_cons_zero, put_at, List.set])
                  refine wpAnyL_one (i := 9) rfl (by kernel_rfl) (by kernel_rfl) hClosed (fun KK hK => ?_)
                  go_simp
                  refine hK.out _ _ ?_ (fun hClosed hHeld => ?_)
                  · exact ⟨hHeld.1.alloc _, hHeld.2.alloc _⟩
                  clear hK KK
                  (first | simp only [List.getElem_toArray, List.getElem_cons_succ, List.getElem_cons_zero, put_at, List.set] | (try simp only [put_at, List.set]))
                  refine wpAnyL_one (i := 10) rfl (by kernel_rfl) (by kernel_rfl) hClosed (fun KK hK => ?_)
                  refine step_appR rowHd rfl _ _ rfl w7.heap.size ha k hc (hdV hs) rfl (HO.out.drew.alloc _) _ 0 1 1 [.string x, .string y] rfl (by decide) rfl (new_cells _ _ _) (strV_one [x, y]) (by omega) (by decide) (Nat.le_trans hszB (by simp)) (k + 1) rfl (hdV (hs ++ [(x, y)])) HZ.out ?_
                  rintro g5 c5 w9 p1 p2 p3 p4
                  have HXR := Lib.hid (And.intro (row_out p2 (HO.out.drew.alloc _) hHeld.1 hHeld.2 HM7.out.xbx.lt) p1)
                  refine hK.out _ _ ?_ (fun hClosed hHeld => ?_)
                  · exact HXR.out.1
                  clear hK KK
                  (first | simp only [List.getElem_toArray, List.getElem_cons_succ, List.getElem_cons_zero, put_at, List.set] | (try simp only [put_at, List.set]))
                  clear HO
                  refine wpAnyL_take (i := 11) (v := ?_) rfl (by kernel_rfl) (by kernel_rfl) (by kernel_rfl) (by kernel_rfl) (fun _ _ _ h => h) (by kernel_rfl) hClosed (Or.inl ⟨by rfl, ?_⟩) hHeld (fun hClosed => ?_)
                  rotate_left
                  · intro wv hSw; go_simp; all_goals (with_reducible rfl)
                  (try simp only [List.getElem_toArray, List.getElem_cons_succ, List.getElem_cons_zero, put_at, List.set])
                  refine wpAnyL_last rfl (by kernel_rfl) (by kernel_rfl) (fun KK hK => ?_)
                  have g5x := hHeld.1.cell 5
                  have h5x := hHeld.1.free 5
                  have l5x := hHeld.1.lt
                  unfold xC at g5x
                  simp at g5x
                  go_simp
                  refine hK.out _ _ ?_
                  (try simp only [put_at, List.set])
                  have HM9 := Lib.hid hHeld
                  go_wp2
                  go_roundw
                  case rel => exact ⟨n - 2, k + 1, a', c3 - 2, ts4, hs ++ [(x, y)], some ⟨g5, 0, none⟩, c5, by omega, HNK4.out, rfl, HW4, HNX4, Lib.hid (HXR.out.1.2.setCell (Or.inl rfl) _), Lib.hid (HXR.out.1.1.set 5 _), Lib.hid (HXR.out.2.other (fun g e => by injection e with e; injection e with e; subst e; exact ne_low HXR.out.2.lt.1 HM7.out.xbx.lt) _), HLS4, HPR4⟩
                  case measure => simp [lenV]; omega
                · have d0 : decide (0 < (n : Int)) = false := decide_eq_false (by omega)
                  have d0n : decide (0 < n) = false := decide_eq_false h0
                  have ht3 : ts3 = [] := List.eq_nil_of_length_eq_zero (by have h9 := HW3.out.len; omega)
                  have HFI2 : Hid (stepF ⟨fk, fw, fn, ft, fh⟩ (ws.map bl) = some (spOf ⟨fk, ns[0]?.getD 0, ns[1]?.getD 0, ns[2]?.getD 0, tt, hs⟩)) := Lib.hid (by
                    rw [HSF7.out, HFI.out, HPR.out, ht3]
                    simp [prsW, spOf])
                  have HOF := Lib.hid (HO.out.mono HM7.out.bel.size)
                  have hgx : ∀ g, ha = some ⟨g, 0, none⟩ → g ≠ rb := fun g e => by
                    have h8 := HM7.out.rbx.lt
                    have h9 := HO.out
                    rw [e] at h9
                    have := h9.lt.1
                    omega
                  have HOG := Lib.hid hgx
                  clear hgx
                  go_upto_region 26 with fail
                  refine wp_region_lit ?_
                  refine wpList_loadv rfl rfl rfl (step_row HMr.out.xbx rfl) ?_
                  refine wpList_storeRow rfl rfl rfl rfl HMr.out.rbx rfl (by kernel_rfl) (xC_one _ _ _ _ rfl) ?_
                  have FIN := Lib.hid HMr.out.fin
                  go_wp2
                  refine bodyPost_ret (results_cell_tmp Tryd.results23 rfl (step_row FIN.out.1 rfl)) rfl ?_
                  exact ⟨FIN.out.2, ⟨fk, ns[0]?.getD 0, ns[1]?.getD 0, ns[2]?.getD 0, tt, hs⟩, ha, k, hc, true, rfl, Or.inr ⟨rfl, HFI2.out, HLS.out, HOF.out.blocks (fun g e => setRow_other _ _ _ _ (fun h => HOG.out g e h))⟩⟩
end Go.Proofs.YtbfdklmljcdonaaDoor
