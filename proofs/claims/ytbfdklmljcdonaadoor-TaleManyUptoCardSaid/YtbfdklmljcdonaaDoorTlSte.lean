/- Package tale: the step of a line. -/
import Derived.Test.YtbfdklmljcdonaaDoorTlStp
import Derived.Test.YtbfdklmljcdonaaDoorLast
namespace Go.Proofs.YtbfdklmljcdonaaDoor
open Go Go.RowKit
set_option linter.unusedVariables false
set_option linter.unusedSimpArgs false
set_option maxRecDepth 10000

theorem split_len : ∀ (n : Nat) (s : Bt), s.length ≤ n → (spl s).length = Lib.count s [32] + 1 := by
  intro n
  induction n with
  | zero =>
    intro s hs
    have : s = [] := List.eq_nil_of_length_eq_zero (by omega)
    subst this
    have e : Lib.index [] [32] = -1 := rfl
    rw [Lib.count_miss e]
    rfl
  | succ n ih =>
    intro s hs
    rcases Lib.index_spec s [32] with ⟨e, _⟩ | ⟨i, e, _⟩
    · rw [Lib.count_miss e, spl_last s (index_no_sp e)]
      rfl
    · obtain ⟨hlt, hcut, hno⟩ := index_sp e
      have h1 := ih (s.drop (i + 1)) (by simp; omega)
      have hc := Lib.count_hit (s := s) (sub := [32]) (by simp) e
      simp only [List.length_cons, List.length_nil, Nat.zero_add] at hc
      rw [hc]
      conv => lhs; rw [hcut, spl_word _ _ hno]
      rw [List.length_cons, h1]
      omega
theorem spl_size : ∀ (s : Bt), ∀ x ∈ spl s, x.length ≤ s.length
  | [] => by simp [spl]
  | c :: r => by
    have ih := spl_size r
    unfold spl
    split
    · intro x hx
      rcases List.mem_cons.1 hx with rfl | hx
      · simp
      · have := ih x hx
        simp
        omega
    · split
      · intro x hx
        rw [List.mem_singleton] at hx
        subst hx
        simp
      · rename_i w ws e
        rw [e] at ih
        intro x hx
        rcases List.mem_cons.1 hx with rfl | hx
        · have := ih w (List.mem_cons_self ..)
          simp
          omega
        · have := ih x (List.mem_cons_of_mem _ hx)
          simp
          omega
theorem spl_count : ∀ (s : Bt), (spl s).length ≤ s.length + 1
  | [] => by simp [spl]
  | c :: r => by
    have ih := spl_count r
    unfold spl
    split
    · simp; omega
    · split
      · simp
      · rename_i w ws e
        rw [e] at ih
        simp at ih ⊢
        omega
def SplP (s : ByteArray) (w : World) (e : Ending) (w' : World) : Prop :=
  ∃ (ws : List ByteArray) (n g : Nat), e = .returned (.slice (some ⟨g, 0, none⟩) n n) ∧ ws.map bl = spl (bl s) ∧ ws.length = n ∧ Own w' w.heap.size 9 1 (some ⟨g, 0, none⟩) n n (strV ws) ∧ Below w.heap.size w w'
theorem split_at (s : ByteArray) (w : World) (hs : s.size ≤ 3000000) (hT : TabT w) :
    Calls Tryd.prog 22 #[.string s, .string ⟨#[32]⟩] w (SplP s w) := by
  obtain ⟨m, hm⟩ := hT.len
  refine (Any.strings_Split Tryd.lays146 (by kernel_rfl) s ⟨#[32]⟩ m w (by omega) hm (by decide)).mono ?_
  rintro e w' ⟨rfl, rfl⟩
  have hd := Lib.splitB_data ⟨#[32]⟩ 0 (Lib.countB s ⟨#[32]⟩) s
  have hc : Lib.countB s ⟨#[32]⟩ = Lib.count s.data.toList [32] := rfl
  rw [show (({ data := #[32] } : ByteArray)).data.toList = [32] from rfl, hc, split_spl _ _ (Nat.le_refl _)] at hd
  have hl : (Lib.splitB ⟨#[32]⟩ 0 (Lib.count s.data.toList [32]) s).length = Lib.count s.data.toList [32] + 1 := by
    have h9 := congrArg List.length hd
    rw [List.length_map, split_len _ _ (Nat.le_refl _)] at h9
    exact h9
  have hcnt : Lib.count s.data.toList [32] + 1 ≤ 3000001 := by
    rw [← split_len _ _ (Nat.le_refl _)]
    have := spl_count s.data.toList
    have h8 : s.data.toList.length = s.size := bl_len s
    omega
  rw [hc]
  refine ⟨Lib.splitB ⟨#[32]⟩ 0 (Lib.count s.data.toList [32]) s, _, w.heap.size, rfl, hd, hl, ?_, (Below.refl _ _).alloc (Nat.le_refl _) _⟩
  have h9 := Own.lit (w := w) (B := w.heap.size) (n := Lib.count s.data.toList [32] + 1) (size := 1) (cs := ((Lib.splitB ⟨#[32]⟩ 0 (Lib.count s.data.toList [32]) s).map Value.string).toArray) (E := 9) (Nat.le_refl _) (by omega) (by rw [List.size_toArray, List.length_map, hl, Nat.mul_one])
  exact h9
theorem st_one (k a b c : Int) (t : ByteArray) (ha : Option Addr) (n hc : Nat) : (#[.int .i64 k, .int .i64 a, .int .i64 b, .int .i64 c, .string t, .slice ha n hc] : Array Value).all (·.oneCell') = true := by
  rw [Array.all_eq_true']
  intro v hm
  simp only [List.mem_toArray, List.mem_cons, List.not_mem_nil, or_false] at hm
  rcases hm with rfl | rfl | rfl | rfl | rfl | rfl <;> rfl
def R6 (q : Bool) (F : Option Sp) (y : Stp) (n : Nat) (O : Prop) : Prop := (q = false ∧ F = none) ∨ (q = true ∧ F = some (spOf y) ∧ y.hs.length = n ∧ O)
theorem R6.mono {q : Bool} {F : Option Sp} {y : Stp} {n : Nat} {O O' : Prop} (h : O → O') (r : R6 q F y n O) : R6 q F y n O' := by
  rcases r with r | ⟨r1, r2, r3, r4⟩
  · exact Or.inl r
  · exact Or.inr ⟨r1, r2, r3, h r4⟩
theorem R6.no {F : Option Sp} {y : Stp} {n : Nat} {O : Prop} (r : R6 false F y n O) : F = none := by
  rcases r with ⟨_, h⟩ | ⟨h, _⟩
  · exact h
  · cases h
theorem R6.yes {F : Option Sp} {y : Stp} {n : Nat} {O : Prop} (r : R6 true F y n O) : F = some (spOf y) ∧ y.hs.length = n ∧ O := by
  rcases r with ⟨h, _⟩ | ⟨_, h⟩
  · cases h
  · exact h
theorem own_setRow {w : World} {B n c size b : Nat} {E : TypeId} {a : Option Addr} {xs : List Value} {cs : Array Value} (h : Own w B E size a n c xs) (hne : ∀ g, a = some ⟨g, 0, none⟩ → g ≠ b) : Own (w.setRow b cs) B E size a n c xs :=
  h.blocks (fun g e => setRow_other _ _ _ _ (fun h => hne g e h))
theorem res_A {w6 : World} {q : Bool} {F : Option Sp} {y : Stp} {ha : Option Addr} {n hc Bq Bc b7 : Nat} {cs : Array Value} {o : Obj} (r : R6 q F y n (Own w6 Bq 36 2 ha n hc (hdV y.hs))) (hB : Bc ≤ Bq) (he : w6.heap.size = b7) :
    R6 q F y n (Own ((w6.alloc o).setRow b7 cs) Bc 36 2 ha n hc (hdV y.hs)) :=
  r.mono fun ho => own_setRow ((ho.mono hB).alloc o) (fun g e => by have := (own_lt ho e).1; omega)
theorem res_B {w6 : World} {q : Bool} {F : Option Sp} {y : Stp} {ha : Option Addr} {n hc Bq Bc b7 : Nat} {cs : Array Value} (r : R6 q F y n (Own w6 Bq 36 2 ha n hc (hdV y.hs))) (hB : Bc ≤ Bq) (he : b7 < Bq) :
    R6 q F y n (Own (w6.setRow b7 cs) Bc 36 2 ha n hc (hdV y.hs)) :=
  r.mono fun ho => own_setRow (ho.mono hB) (fun g e => by have := (own_lt ho e).2; omega)
theorem ne_hi {a : Option Addr} {b : Nat} (h : ∀ g, a = some ⟨g, 0, none⟩ → g ≠ b) : ∀ g, a = some ⟨g, 0, none⟩ → g ≠ b := h
def SteP (s : ByteArray) (w : World) (e : Ending) (w' : World) : Prop :=
  Below w.heap.size w w' ∧ ((stepS (bl s) = none ∧ e = .returned (.tuple #[.agg #[.int .i64 0, .int .i64 0, .int .i64 0, .int .i64 0, .string ByteArray.empty, .slice none 0 0], .int .i64 8])) ∨
    (∃ (y : Stp) (ha : Option Addr) (n hc : Nat), stepS (bl s) = some (spOf y) ∧ e = .returned (.tuple #[.agg (stA y.k y.a y.b y.c y.t ha n hc), .int .i64 0]) ∧ y.hs.length = n ∧ Own w' w.heap.size 36 2 ha n hc (hdV y.hs)))
set_option maxHeartbeats 4000000 in
theorem step_line_at (s : ByteArray) (hs : s.size ≤ 3000000) (w : World) (hT : TabT w) :
    Calls Tryd.prog 13 #[.string s] w (SteP s w) := by
  have HT := Lib.hid hT
  clear hT
  have B0 := Box.new w #[.int .i64 0, .int .i64 0, .int .i64 0, .int .i64 0, .string ByteArray.empty, .slice none 0 0] 26
  go_enter Tryd.func13, Tryd.ntmps13
  go_upto_region 1 with fail
  refine code_forget (fun W => Hid (Box W w.heap.size #[.int .i64 0, .int .i64 0, .int .i64 0, .int .i64 0, .string ByteArray.empty, .slice none 0 0] 26) ∧ Hid (Below w.heap.size w W)) ⟨Lib.hid B0, Lib.hid ((Below.refl w.heap.size w).alloc (Nat.le_refl _) _)⟩ ?_
  rintro w1 ⟨BR1, HB1⟩
  obtain ⟨rb, hrb⟩ : ∃ b, w.heap.size = b := ⟨_, rfl⟩
  have HRB := Lib.hid hrb
  rw [hrb] at BR1 ⊢
  clear B0 hrb
  go_wp2_with fail
  refine (split_at s w1 (by omega) (HT.out.later HB1.out)).mono ?_
  rintro e w2 ⟨ws, NW, gw, rfl, hws, hlw, how, b2⟩
  have HWS := Lib.hid hws
  have HB2 := Lib.hid (HB1.out.trans (b2.mono HB1.out.size))
  have BR2 := Lib.hid (BR1.out.later b2)
  have HOW := Lib.hid how
  have HLW := Lib.hid hlw
  have hnw : NW ≤ 3000001 := by
    rw [← hlw, ← List.length_map (f := bl), hws]
    have := spl_count (bl s)
    rw [bl_len] at this
    omega
  have HSZ : Hid (∀ x ∈ ws, x.size ≤ 3000000) := Lib.hid (fun x hx => by
    rw [← bl_len]
    have h9 := spl_size (bl s) (bl x) (by rw [← hws]; exact List.mem_map_of_mem hx)
    rw [bl_len] at h9 ⊢
    rw [bl_len] at h9
    omega)
  clear hws b2 how hlw BR1 HB1
  obtain ⟨x0, wr0, hw0⟩ : ∃ x r, ws = x :: r := by
    cases hh : ws with
    | nil =>
      have h9 := HWS.out
      rw [hh] at h9
      exact absurd h9.symm (spl_ne _)
    | cons x r => exact ⟨x, r, rfl⟩
  subst hw0
  have HWRD : Hid (Wrd w2 (some ⟨gw, 0, none⟩) NW NW (x0 :: wr0)) := Lib.hid ⟨rdc_own HOW.out (by decide), HLW.out, Nat.le_refl _⟩
  obtain ⟨bb, off, a1, hab, hc0, hsl, hw1, hn1, ha1⟩ := HWRD.out.next
  injection hab with hab
  injection hab with h1 h2 _
  subst h1 h2
  have HSL := Lib.hid hsl
  have HC0 := Lib.hid hc0
  have HW1 := Lib.hid hw1
  have HSS : Hid (stepS (bl s) = stepW (bl x0) (wr0.map bl)) := Lib.hid (by unfold stepS; rw [← HWS.out]; rfl)
  have HSZ1 : Hid (∀ x ∈ wr0, x.size ≤ 3000000) := Lib.hid (fun x hx => HSZ.out x (List.mem_cons_of_mem _ hx))
  clear hc0 hsl hw1 ha1 HWS HOW HLW HWRD HSZ
  have LD1 := fm_load w2 (HT.out.later HB2.out)
  have IX := Lib.hid fm_index
  obtain ⟨FM, hFM⟩ : ∃ F, fmC.toArray = F := ⟨_, rfl⟩
  rw [hFM] at LD1 IX
  clear hFM
  go_upto_region 2 with fail
  refine wp_region_lit ?_
  refine wpList_loadv rfl rfl rfl LD1 ?_
  clear LD1
  go_wp2_with fail
  go_loopw [12] (fun vj wr => ∃ (j : Nat), j ≤ 8 ∧ vj = .int .i64 (j : Int) ∧ Hid (Below w2.heap.size w2 wr) ∧ Hid (∀ i f, i < j → fms[i]? = some f → f.word = bl x0 → stepF f (wr0.map bl) = none)) (fun vj _ => 8 - (intOf vj).toNat)
  case atStart => exact ⟨0, by omega, rfl, Lib.hid (Below.refl _ _), Lib.hid (fun i f h => by omega)⟩
  case round =>
    obtain ⟨j, hj, rfl, HB, HF⟩ := hrel
    by_cases hlt : j < 8
    · have hkd : decide ((j : Int) < 8) = true := decide_eq_true (by omega)
      obtain ⟨f, hf⟩ : ∃ f, fms[j]? = some f := ⟨fms[j]'hlt, List.getElem?_eq_getElem _⟩
      have IXF := IX.out j f hf
      have HFM := Lib.hid (List.mem_of_getElem? hf)
      have HFJ := Lib.hid hf
      clear hf
      have hfn := fms_n f HFM.out
      obtain ⟨fk, fw, fn, ft, fh⟩ := f
      have IXF2 := IXF
      clear IXF
      unfold fmA at IXF2
      dsimp only at hfn IXF2
      obtain ⟨fws, hfws⟩ : ∃ s, stB fw = s := ⟨_, rfl⟩
      rw [hfws] at IXF2
      have HFW := Lib.hid hfws
      clear hfws
      have BN := Lib.hid (Box.new wr #[.int .i64 fk, .string fws, .int .i64 (fn : Int), .bool ft, .bool fh] 38)
      have BA := Lib.hid ((Below.refl wr.heap.size wr).alloc (Nat.le_refl _) (.cells #[.int .i64 fk, .string fws, .int .i64 (fn : Int), .bool ft, .bool fh] 38))
      go_upto_region 5 with fail
      obtain ⟨wa, hwa⟩ : ∃ W, wr.alloc (.cells #[.int .i64 fk, .string fws, .int .i64 (fn : Int), .bool ft, .bool fh] 38) = W := ⟨_, rfl⟩
      obtain ⟨fb, hfb⟩ : ∃ b, wr.heap.size = b := ⟨_, rfl⟩
      have BF : Hid (Box wa fb #[.int .i64 fk, .string fws, .int .i64 (fn : Int), .bool ft, .bool fh] 38) := Lib.hid (by have h9 := BN.out; rw [hwa, hfb] at h9; exact h9)
      have HBa := Lib.hid (HB.out.trans (BA.out.mono HB.out.size))
      rw [hwa] at HBa ⊢
      rw [hfb]
      clear hwa hfb BN BA HB IXF2
      have STP := Lib.hid (fun W (hW : Below wa.heap.size wa W) => step_at ⟨fk, fw, fn, ft, fh⟩ hfn wr0 (NW - 1) (NW - 1) a1 (by omega) HSZ1.out W (HW1.out.later (HBa.out.trans (hW.mono HBa.out.size))) (HT.out.later (HB2.out.trans ((HBa.out.trans (hW.mono HBa.out.size)).mono HB2.out.size))))
      unfold fmA at STP
      rw [HFW.out] at STP
      have NXT : Hid ((fw = bl x0 → stepF ⟨fk, fw, fn, ft, fh⟩ (wr0.map bl) = none) → ∀ i f, i < j + 1 → fms[i]? = some f → f.word = bl x0 → stepF f (wr0.map bl) = none) := Lib.hid (fun h i g hi hg hw => by
        by_cases hij : i < j
        · exact HF.out i g hij hg hw
        · have : i = j := by omega
          subst this
          rw [HFJ.out] at hg
          injection hg with hg
          subst hg
          exact h hw)
      obtain ⟨q0, hq0⟩ : ∃ q, (fws.toList == x0.toList) = q := ⟨_, rfl⟩
      have HQ0 : Hid (decide (fw = bl x0) = q0) := Lib.hid (by rw [← hq0, str_eq, ← HFW.out, bl_stB])
      have f1 := BF.out.cell 1
      have lf := BF.out.lt
      have c0 := (HBa.out.cell (World.block_lt_of_cell? _ _ HC0.out)).trans HC0.out
      have i0 : (0 : Int) < (NW : Int) := by omega
      go_cut [20] (fun v wx => v = .bool (!q0) ∧ Hid (Below wa.heap.size wa wx))
      case first =>
        go_quiet (fail)
        cases q0 <;> (go_wp2; go_meet; exact ⟨rfl, Lib.hid (below_drewN (Below.refl _ _) _)⟩)
      case rest =>
        obtain ⟨rfl, HC⟩ := hcut
        obtain ⟨wz, hwd⟩ : ∃ W, wc = W := ⟨_, rfl⟩
        rw [hwd] at HC ⊢
        clear hwd f1 lf c0
        have BFc := Lib.hid (BF.out.later HC.out)
        have HBc := Lib.hid (HBa.out.trans (HC.out.mono HBa.out.size))
        have STPc := Lib.hid (fun W (hW : Below wz.heap.size wz W) => STP.out W (HC.out.trans (hW.mono HC.out.size)))
        clear STP BF HBa HC
        cases q0 with
        | false =>
          have HNX := Lib.hid (NXT.out (fun h => absurd (HQ0.out) (by rw [decide_eq_true h]; decide)))
          clear STPc BFc
          go_wp2
          go_roundw
          case rel => exact ⟨j + 1, by omega, by go_num, HBc, HNX⟩
          case measure => simp [intOf]; omega
        | true =>
          have hwq : fw = bl x0 := of_decide_eq_true HQ0.out
          have HWQ := Lib.hid hwq
          clear hwq
          go_upto_region 6 with fail
          go_cut [7, 8] (fun p v wx => ∃ (y : Stp) (ha : Option Addr) (n hc : Nat) (q : Bool) (b7 : Nat), p = .pointer (some ⟨b7, 0, none⟩) ∧ v = .bool q ∧ Hid (Box wx b7 #[.int .i64 y.k, .int .i64 y.a, .int .i64 y.b, .int .i64 y.c, .string y.t, .slice ha n hc] 26) ∧ Hid (Below wz.heap.size wz wx) ∧ Hid (R6 q (stepF ⟨fk, fw, fn, ft, fh⟩ (wr0.map bl)) y n (Own wx wz.heap.size 36 2 ha n hc (hdV y.hs))))
          case first =>
            refine wp_region_last 9 (fun w' => Below wz.heap.size wz w') (by kernel_rfl) ((Below.refl _ _).drew) (fun hHeld hClosed => ?_)
            have HSQ := Lib.hid ((Below.refl wz.heap.size wz).drew)
            generalize wz.drew = wq at HSQ hHeld ⊢
            refine wpAnyL_take (i := 0) (v := ?_) rfl (by kernel_rfl) (by kernel_rfl) (by kernel_rfl) (by kernel_rfl) (fun _ _ _ h => h) (by kernel_rfl) hClosed (Or.inl ⟨by rfl, ?_⟩) hHeld (fun hClosed => ?_)
            rotate_left
            · intro wv hSw; have f0 := (BFc.out.later hSw).cell 0; have f1 := (BFc.out.later hSw).cell 1; have f2 := (BFc.out.later hSw).cell 2; have f3 := (BFc.out.later hSw).cell 3; have f4 := (BFc.out.later hSw).cell 4; have lf := (BFc.out.later hSw).lt; go_simp; all_goals (with_reducible rfl)
            (try simp only [List.getElem_toArray, List.getElem_cons_zero, put_at, List.set])
            refine wpAnyL_take (i := 1) (v := ?_) rfl (by kernel_rfl) (by kernel_rfl) (by kernel_rfl) (by kernel_rfl) (fun _ _ _ h => h) (by kernel_rfl) hClosed (Or.inl ⟨by rfl, ?_⟩) hHeld (fun hClosed => ?_)
            rotate_left
            · intro wv hSw; go_simp; all_goals (with_reducible rfl)
            (try simp only [List.getElem_toArray, List.getElem_cons_succ, List.getElem_cons_zero, put_at, List.set])
            refine wpAnyL_take (i := 2) (v := .slice a1 (NW - 1) (NW - 1)) rfl (by kernel_rfl) (by kernel_rfl) (by kernel_rfl) (by kernel_rfl) (fun _ _ _ h => h) (by kernel_rfl) hClosed (Or.inl ⟨by rfl, ?_⟩) hHeld (fun hClosed => ?_)
            · intro wv hSw; exact exec_slice (by rfl) (by rfl) (fun W => HSL.out W)
            (try simp only [List.getElem_toArray, List.getElem_cons_succ, List.getElem_cons_zero, put_at, List.set])
            refine wpAnyL_two (i := 3) (j := 7) rfl rfl (by kernel_rfl) (by kernel_rfl) (by kernel_rfl) hClosed (fun KK hK => ?_) (fun KK hK => ?_)
            · go_simp
              refine (STPc.out _ hHeld).mono ?_
              rintro e w6 ⟨hb6, y, ha, n, hc, q, rfl, hres⟩
              go_wp2_with fail
              refine hK.out _ _ ?_ (fun hClosed hHeld => ?_)
              · exact hHeld.trans (hb6.mono hHeld.size)
              clear hK KK
              (first | simp only [List.getElem_toArray, List.getElem_cons_succ, List.getElem_cons_zero, put_at, List.set] | (try simp only [put_at, List.set]))
              have HRES : Hid (R6 q (stepF ⟨fk, fw, fn, ft, fh⟩ (wr0.map bl)) y n _) := Lib.hid hres
              have HOR := Lib.hid (show Below wz.heap.size wz w6 from hHeld)
              clear hres hb6
              refine wpAnyL_take (i := 4) (v := ?_) rfl (by kernel_rfl) (by kernel_rfl) (by kernel_rfl) (by kernel_rfl) (fun _ _ _ h => h) (by kernel_rfl) hClosed (Or.inl ⟨by rfl, ?_⟩) hHeld (fun hClosed => ?_)
              rotate_left
              · intro wv hSw; go_simp; all_goals (with_reducible rfl)
              (try simp only [List.getElem_toArray, List.getElem_cons_succ, List.getElem_cons_zero, put_at, List.set])
              refine wpAnyL_take (i := 5) (v := ?_) rfl (by kernel_rfl) (by kernel_rfl) (by kernel_rfl) (by kernel_rfl) (fun _ _ _ h => h) (by kernel_rfl) hClosed (Or.inl ⟨by rfl, ?_⟩) hHeld (fun hClosed => ?_)
              rotate_left
              · intro wv hSw; go_simp; all_goals (with_reducible rfl)
              (try simp only [List.getElem_toArray, List.getElem_cons_succ, List.getElem_cons_zero, put_at, List.set])
              refine wpAnyL_take (i := 6) (v := ?_) rfl (by kernel_rfl) (by kernel_rfl) (by kernel_rfl) (by kernel_rfl) (fun _ _ _ h => h) (by kernel_rfl) hClosed (Or.inl ⟨by rfl, ?_⟩) hHeld (fun hClosed => ?_)
              rotate_left
              · intro wv hSw; go_simp; all_goals (with_reducible rfl)
              (try simp only [List.getElem_toArray, List.getElem_cons_succ, List.getElem_cons_zero, put_at, List.set])
              refine wpAnyL_one (i := 7) rfl (by kernel_rfl) (by kernel_rfl) hClosed (fun KK hK => ?_)
              go_simp
              refine hK.out _ _ ?_ (fun hClosed hHeld => ?_)
              · exact hHeld.alloc hHeld.size _
              clear hK KK
              (first | simp only [List.getElem_toArray, List.getElem_cons_succ, List.getElem_cons_zero, put_at, List.set] | (try simp only [put_at, List.set]))
              have BX7 := Lib.hid (Box.new w6 #[.int .i64 0, .int .i64 0, .int .i64 0, .int .i64 0, .string ByteArray.empty, .slice none 0 0] 26)
              have HB7 := Lib.hid HOR.out.size
              obtain ⟨b7, hb7⟩ : ∃ b, w6.heap.size = b := ⟨_, rfl⟩
              have HBE := Lib.hid hb7
              rw [hb7] at BX7 HB7 ⊢
              clear hb7
              refine wpAnyL_one (i := 8) rfl (by kernel_rfl) (by kernel_rfl) hClosed (fun KK hK => ?_)
              refine step_store_row (cells := #[.int .i64 y.k, .int .i64 y.a, .int .i64 y.b, .int .i64 y.c, .string y.t, .slice ha n hc]) rfl rfl rfl rfl BX7.out rfl (by kernel_rfl) (st_one _ _ _ _ _ _ _ _) ?_
              refine hK.out _ _ ?_ (fun hClosed hHeld => ?_)
              · exact below_row hHeld HB7.out _
              clear hK KK
              (first | simp only [List.getElem_toArray, List.getElem_cons_succ, List.getElem_cons_zero, put_at, List.set] | (try simp only [put_at, List.set]))
              refine wpAnyL_last rfl (by kernel_rfl) (by kernel_rfl) (fun KK hK => ?_)
              go_simp
              refine hK.out _ _ ?_
              (try simp only [put_at, List.set])
              go_wp2
              go_meet
              first | exact ⟨y, ha, n, hc, q, b7, rfl, rfl, Lib.hid (BX7.out.setRow _), Lib.hid hHeld, Lib.hid (res_A HRES.out HSQ.out.size HBE.out)⟩ | exact ⟨y, ha, n, hc, q, b7, rfl, rfl, Lib.hid (BX7.out.setRow _), Lib.hid hHeld, Lib.hid (res_B HRES.out (Nat.le_trans HSQ.out.size (by rw [World.size_alloc]; exact Nat.le_succ _)) (by rw [← HBE.out, World.size_alloc]; exact Nat.lt_succ_self _))⟩
            · go_simp
              refine hK.out _ _ ?_ (fun hClosed hHeld => ?_)
              · exact hHeld.alloc hHeld.size _
              clear hK KK
              (first | simp only [List.getElem_toArray, List.getElem_cons_succ, List.getElem_cons_zero, put_at, List.set] | (try simp only [put_at, List.set]))
              have BX7a := Lib.hid (Box.new wq #[.int .i64 0, .int .i64 0, .int .i64 0, .int .i64 0, .string ByteArray.empty, .slice none 0 0] 26)
              have HB7 := Lib.hid HSQ.out.size
              obtain ⟨b7, hb7⟩ : ∃ b, wq.heap.size = b := ⟨_, rfl⟩
              have HBE := Lib.hid hb7
              rw [hb7] at BX7a HB7 ⊢
              clear hb7
              refine wpAnyL_one (i := 3) rfl (by kernel_rfl) (by kernel_rfl) hClosed (fun KK hK => ?_)
              go_simp
              refine (STPc.out _ hHeld).mono ?_
              rintro e w6 ⟨hb6, y, ha, n, hc, q, rfl, hres⟩
              go_wp2_with fail
              refine hK.out _ _ ?_ (fun hClosed hHeld => ?_)
              · exact hHeld.trans (hb6.mono hHeld.size)
              clear hK KK
              (first | simp only [List.getElem_toArray, List.getElem_cons_succ, List.getElem_cons_zero, put_at, List.set] | (try simp only [put_at, List.set]))
              have HRES : Hid (R6 q (stepF ⟨fk, fw, fn, ft, fh⟩ (wr0.map bl)) y n _) := Lib.hid hres
              have BX7 := Lib.hid (BX7a.out.later hb6)
              clear hres hb6
              refine wpAnyL_take (i := 4) (v := ?_) rfl (by kernel_rfl) (by kernel_rfl) (by kernel_rfl) (by kernel_rfl) (fun _ _ _ h => h) (by kernel_rfl) hClosed (Or.inl ⟨by rfl, ?_⟩) hHeld (fun hClosed => ?_)
              rotate_left
              · intro wv hSw; go_simp; all_goals (with_reducible rfl)
              (try simp only [List.getElem_toArray, List.getElem_cons_succ, List.getElem_cons_zero, put_at, List.set])
              refine wpAnyL_take (i := 5) (v := ?_) rfl (by kernel_rfl) (by kernel_rfl) (by kernel_rfl) (by kernel_rfl) (fun _ _ _ h => h) (by kernel_rfl) hClosed (Or.inl ⟨by rfl, ?_⟩) hHeld (fun hClosed => ?_)
              rotate_left
              · intro wv hSw; go_simp; all_goals (with_reducible rfl)
              (try simp only [List.getElem_toArray, List.getElem_cons_succ, List.getElem_cons_zero, put_at, List.set])
              refine wpAnyL_take (i := 6) (v := ?_) rfl (by kernel_rfl) (by kernel_rfl) (by kernel_rfl) (by kernel_rfl) (fun _ _ _ h => h) (by kernel_rfl) hClosed (Or.inl ⟨by rfl, ?_⟩) hHeld (fun hClosed => ?_)
              rotate_left
              · intro wv hSw; go_simp; all_goals (with_reducible rfl)
              (try simp only [List.getElem_toArray, List.getElem_cons_succ, List.getElem_cons_zero, put_at, List.set])
              refine wpAnyL_one (i := 8) rfl (by kernel_rfl) (by kernel_rfl) hClosed (fun KK hK => ?_)
              refine step_store_row (cells := #[.int .i64 y.k, .int .i64 y.a, .int .i64 y.b, .int .i64 y.c, .string y.t, .slice ha n hc]) rfl rfl rfl rfl BX7.out rfl (by kernel_rfl) (st_one _ _ _ _ _ _ _ _) ?_
              refine hK.out _ _ ?_ (fun hClosed hHeld => ?_)
              · exact below_row hHeld HB7.out _
              clear hK KK
              (first | simp only [List.getElem_toArray, List.getElem_cons_succ, List.getElem_cons_zero, put_at, List.set] | (try simp only [put_at, List.set]))
              refine wpAnyL_last rfl (by kernel_rfl) (by kernel_rfl) (fun KK hK => ?_)
              go_simp
              refine hK.out _ _ ?_
              (try simp only [put_at, List.set])
              go_wp2
              go_meet
              first | exact ⟨y, ha, n, hc, q, b7, rfl, rfl, Lib.hid (BX7.out.setRow _), Lib.hid hHeld, Lib.hid (res_A HRES.out HSQ.out.size HBE.out)⟩ | exact ⟨y, ha, n, hc, q, b7, rfl, rfl, Lib.hid (BX7.out.setRow _), Lib.hid hHeld, Lib.hid (res_B HRES.out (Nat.le_trans HSQ.out.size (by rw [World.size_alloc]; exact Nat.le_succ _)) (by rw [← HBE.out, World.size_alloc]; exact Nat.lt_succ_self _))⟩
          case rest =>
            obtain ⟨y, ha, n, hc, q, b7, rfl, rfl, BX7, HB7, HRES⟩ := hcut
            obtain ⟨w7, hw7⟩ : ∃ W, wc = W := ⟨_, rfl⟩
            rw [hw7] at BX7 HB7 HRES ⊢
            clear hw7
            have HBd := Lib.hid (HBc.out.trans (HB7.out.mono HBc.out.size))
            cases q with
            | false =>
              have HNX := Lib.hid (NXT.out (fun _ => R6.no HRES.out))
              clear HRES BX7
              go_wp2
              go_roundw
              case rel => exact ⟨j + 1, by omega, by go_num, HBd, HNX⟩
              case measure => simp [intOf]; omega
            | true =>
              have HYS : Hid (stepS (bl s) = some (spOf y) ∧ y.hs.length = n ∧ Own w7 wz.heap.size 36 2 ha n hc (hdV y.hs)) := Lib.hid (by
                obtain ⟨h1, h2, h3⟩ := R6.yes HRES.out
                refine ⟨?_, h2, h3⟩
                rw [HSS.out]
                unfold stepW
                have h9 := find_word HFM.out
                rw [HWQ.out] at h9
                rw [h9]
                exact h1)
              have BRd := Lib.hid (BR2.out.later HBd.out)
              have HNR : Hid (∀ g, ha = some ⟨g, 0, none⟩ → g ≠ rb) := Lib.hid (fun g e => by
                have h8 := (own_lt HYS.out.2.2 e).2
                have h9 := (BR2.out.later HBc.out).lt
                omega)
              go_upto_region 8 with fail
              refine wp_region_lit ?_
              refine wpList_loadv rfl rfl rfl (step_row BX7.out rfl) ?_
              refine wpList_storeRow rfl rfl rfl rfl BRd.out rfl (by kernel_rfl) (st_one _ _ _ _ _ _ _ _) ?_
              have FIN := Lib.hid (And.intro (BRd.out.setRow #[.int .i64 y.k, .int .i64 y.a, .int .i64 y.b, .int .i64 y.c, .string y.t, .slice ha n hc]) (below_row (HB2.out.trans (HBd.out.mono HB2.out.size)) (Nat.le_of_eq HRB.out) #[.int .i64 y.k, .int .i64 y.a, .int .i64 y.b, .int .i64 y.c, .string y.t, .slice ha n hc]))
              go_wp2
              refine bodyPost_ret (results_cell_tmp Tryd.results13 rfl (step_row FIN.out.1 rfl)) rfl ?_
              exact ⟨FIN.out.2, Or.inr ⟨y, ha, n, hc, HYS.out.1, rfl, HYS.out.2.1, own_setRow (Own.mono HYS.out.2.2 (HB2.out.trans (HBc.out.mono HB2.out.size)).size) HNR.out⟩⟩
    · have hkd : decide ((j : Int) < 8) = false := decide_eq_false (by omega)
      have HNO : Hid (stepS (bl s) = none) := Lib.hid (by
        rw [HSS.out]
        unfold stepW
        cases hf : fms.find? (fun f => f.word == bl x0) with
        | none => rfl
        | some f =>
          have hm := List.mem_of_find?_eq_some hf
          have hw : f.word = bl x0 := by simpa using List.find?_some hf
          obtain ⟨i, hi, he⟩ := List.mem_iff_getElem.1 hm
          exact HF.out i f (by have : i < 8 := hi; omega) (by rw [List.getElem?_eq_getElem hi, he]) hw)
      have BRr := Lib.hid (BR2.out.later HB.out)
      have c0 := BRr.out.cell 0
      have c1 := BRr.out.cell 1
      have c2 := BRr.out.cell 2
      have c3 := BRr.out.cell 3
      have c4 := BRr.out.cell 4
      have c5 := BRr.out.cell 5
      have g0 := BRr.out.free 0
      have g1 := BRr.out.free 1
      have g2 := BRr.out.free 2
      have g3 := BRr.out.free 3
      have g4 := BRr.out.free 4
      have g5 := BRr.out.free 5
      have lr := BRr.out.lt
      have HBr := Lib.hid (HB2.out.trans (HB.out.mono HB2.out.size))
      have FIN := Lib.hid (And.intro ((((((BRr.out.set 0 (.int .i64 0)).set 1 (.int .i64 0)).set 2 (.int .i64 0)).set 3 (.int .i64 0)).set 4 (.string ByteArray.empty)).set 5 (.slice none 0 0)) ((((((HBr.out.setCell (p := ⟨rb, 0, none⟩) (Nat.le_of_eq HRB.out) (.int .i64 0)).setCell (p := ⟨rb, 1, none⟩) (Nat.le_of_eq HRB.out) (.int .i64 0)).setCell (p := ⟨rb, 2, none⟩) (Nat.le_of_eq HRB.out) (.int .i64 0)).setCell (p := ⟨rb, 3, none⟩) (Nat.le_of_eq HRB.out) (.int .i64 0)).setCell (p := ⟨rb, 4, none⟩) (Nat.le_of_eq HRB.out) (.string ByteArray.empty)).setCell (p := ⟨rb, 5, none⟩) (Nat.le_of_eq HRB.out) (.slice none 0 0)))
      go_wp2
      refine bodyPost_ret (results_cell_tmp Tryd.results13 rfl (step_row FIN.out.1 rfl)) rfl ?_
      exact ⟨FIN.out.2, Or.inl ⟨HNO.out, rfl⟩⟩
end Go.Proofs.YtbfdklmljcdonaaDoor
