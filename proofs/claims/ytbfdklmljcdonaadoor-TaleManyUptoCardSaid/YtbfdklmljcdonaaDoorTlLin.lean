/- Package tale: the line of a step. -/
import Derived.Test.YtbfdklmljcdonaaDoorTlWds
import Derived.Laws.Rows
namespace Go.Proofs.YtbfdklmljcdonaaDoor
open Go Go.RowKit
set_option linter.unusedVariables false
set_option linter.unusedSimpArgs false
set_option maxRecDepth 10000

theorem fm_load (w : World) (hT : TabT w) : (loadVar 39 ⟨0, 0, none⟩).run Tryd.prog w = .ok (.agg fmC.toArray) w := by
  have hl : (loadCells ⟨0, 0, none⟩ fmC.length).run Tryd.prog w = .ok fmC.toArray w :=
    run_loadCells_list (P := Tryd.prog) w ⟨0, 0, none⟩ fmC (fun j v hv => by
      have hadd : (⟨0, 0, none⟩ : Addr).add j = ⟨0, j, none⟩ := by unfold Addr.add; split <;> simp_all
      rw [hadd]
      exact hT.fm j v hv)
  have e1 : ∀ w, (isAgg 39).run Tryd.prog w = .ok true w := fun w => by
    unfold isAgg
    simp [run_underlying Tryd.underlying39, go_sem]
  have e2 : ∀ w, (Go.sizeOf 39).run Tryd.prog w = .ok 40 w := Tryd.sizeOf39
  unfold loadVar
  simp only [Sem.run_bind, e1, Result.andThen_ok, if_true, e2]
  rw [show fmC.length = 40 from rfl] at hl
  rw [hl]
  rfl
section
variable {P : Program} {ops : Array Oper} {rest : List Oper} {o : Oper} {act : Act} {Q : Exit → Act → World → Prop} {w : World}
/-- A load whose value is known. -/
theorem wpList_loadv (hgd : o.guard = none) {ty : TypeId} {x : Operand} (ho : o.op = .load ty x) {p : Addr} {v : Value} (hx : act.eval x = .pointer (some p)) (hl : (loadVar ty p).run P w = .ok v w)
    (h : wpList P ops Q rest (act.put o.dst v) w) : wpList P ops Q (o :: rest) act w := by
  refine wpList_plain hgd fun K hK => ?_
  unfold Oper.wp execOp
  simp only [ho, hx, Instr.loadAt, Instr.sureAddr, Sem.run_bind, Sem.run_pure, Result.andThen_ok, hl]
  exact hK _ _ h
end
/-- One form of the table. -/
theorem fm_index (j : Nat) (f : Fm) (hf : fms[j]? = some f) (w : World) : (Instr.index 39 (.agg fmC.toArray) (.int .i64 (j : Int))).run Tryd.prog w = .ok (.agg (fmA f)) w := by
  have hj : j < 8 := (List.getElem?_eq_some_iff.1 hf).1
  have hn : (0 : Int) ≤ j ∧ (j : Int) < ((8 : Nat) : Int) := by omega
  have e1 : ∀ w, (isAgg 38).run Tryd.prog w = .ok true w := fun w => by
    unfold isAgg
    simp [run_underlying Tryd.underlying38, go_sem]
  have e2 : ∀ w, (Go.sizeOf 38).run Tryd.prog w = .ok 5 w := Tryd.sizeOf38
  have e3 : (List.take 5 (List.drop (j * 5) fmC)).toArray = fmA f := by
    have : j = 0 ∨ j = 1 ∨ j = 2 ∨ j = 3 ∨ j = 4 ∨ j = 5 ∨ j = 6 ∨ j = 7 := by omega
    rcases this with rfl | rfl | rfl | rfl | rfl | rfl | rfl | rfl <;> (injection hf with hf; subst hf; rfl)
  simp [Instr.index, run_underlying Tryd.underlying39, asIntOf, hn, go_sem, e2, part, e1, hj]
  exact e3
def JoinP (t : ByteArray) (w : World) (e : Ending) (w' : World) : Prop := e = .returned (.string t) ∧ Below w.heap.size w w'
theorem join_len (ss : List Bt) (M : Nat) (h : ∀ s ∈ ss, s.length ≤ M) : (Lib.join ss [32]).length ≤ ss.length * (M + 1) := by
  have key : ∀ (r : List Bt), (∀ s ∈ r, s.length ≤ M) → (Lib.joinTail [32] r).length ≤ r.length * (M + 1) := by
    intro r
    induction r with
    | nil => intro _; simp [Lib.joinTail]
    | cons a r ih =>
      intro hr
      have h1 := ih (fun s hs => hr s (List.mem_cons_of_mem _ hs))
      have h2 := hr a (List.mem_cons_self ..)
      unfold Lib.joinTail at h1 ⊢
      rw [List.map_cons, List.flatten_cons, List.length_append, List.length_append]
      simp only [List.length_cons, List.length_nil, Nat.add_mul]
      omega
  cases ss with
  | nil => simp [Lib.join_nil]
  | cons a r =>
    have h1 := key r (fun s hs => h s (List.mem_cons_of_mem _ hs))
    have h2 := h a (List.mem_cons_self ..)
    rw [Lib.join_cons, List.length_append]
    simp only [List.length_cons, Nat.add_mul]
    omega
theorem join_at (ss : List ByteArray) (g m c B : Nat) (hm : ss.length = m) (h0 : 0 < m) (hm2 : m ≤ 9000000) (M : Nat) (hM : M ≤ 9000000) (hb : ∀ s ∈ ss, s.size ≤ M) (t : ByteArray) (ht : stB (Lib.join (ss.map bl) [32]) = t) (w : World) (ho : Own w B 9 1 (some ⟨g, 0, none⟩) m c (strV ss)) :
    Calls Tryd.prog 10 #[.slice (some ⟨g, 0, none⟩) m c, .string ⟨#[32]⟩] w (JoinP t w) := by
  subst hm
  have hlen := join_len (ss.map bl) M (fun s hs => by
    obtain ⟨x, hx, rfl⟩ := List.mem_map.1 hs
    rw [bl_len]
    exact hb x hx)
  rw [List.length_map] at hlen
  have hmul : ss.length * (M + 1) ≤ 9000000 * 9000001 := Nat.mul_le_mul hm2 (by omega)
  have := Any.strings_Join Tryd.lays156 Tryd.Builder_Extra_156 g 0 c ss ⟨#[32]⟩ w (fun j x hj => by
    rw [Nat.zero_add]
    exact ho.cell (by unfold strV; rw [List.getElem?_map, hj]; rfl)) ho.lt.2 (by omega) ho.cap_le (by
    show (Lib.join (ss.map bl) [32]).length ≤ _
    omega)
  refine this.mono ?_
  rintro e w' ⟨rfl, hw⟩
  refine ⟨?_, hw⟩
  rw [← ht]
  rfl
theorem words_len (f : Fm) (hf : f ∈ fms) (x : Stp) (hz : SzS x) (hr : RgS x) : ∀ s ∈ wordsS f (spOf x), s.length ≤ 6000001 := by
  obtain ⟨z1, z2, z3⟩ := hz
  obtain ⟨r1, r2, r3⟩ := hr
  intro s hs
  unfold wordsS at hs
  rcases List.mem_cons.1 hs with rfl | hs
  · have : ∀ f ∈ fms, f.word.length ≤ 6 := by decide
    have := this f hf
    omega
  · rcases List.mem_append.1 hs with hs | hs
    · obtain ⟨v, hv, rfl⟩ := List.mem_map.1 hs
      have hv := List.mem_of_mem_take hv
      unfold numsS spOf at hv
      have : Rng v := by
        rcases List.mem_cons.1 hv with rfl | hv
        · exact r1
        · rcases List.mem_cons.1 hv with rfl | hv
          · exact r2
          · rw [List.mem_singleton] at hv
            subst hv
            exact r3
      have := itoa_len this
      omega
    · have hx : ∀ b : ByteArray, b.size ≤ 3000000 → (hexW (bl b)).length ≤ 6000001 := fun b hb => by
        unfold hexW
        rw [List.length_cons, hexL_length, bl_len]
        omega
      rcases List.mem_append.1 hs with hs | hs
      · split at hs
        · rw [List.mem_singleton] at hs
          subst hs
          exact hx _ z1
        · cases hs
      · unfold hdW spOf at hs
        obtain ⟨h, hh, hs⟩ := List.mem_flatMap.1 hs
        obtain ⟨y, hy, rfl⟩ := List.mem_map.1 hh
        have := z3 y hy
        simp only [List.mem_cons, List.not_mem_nil, or_false] at hs
        rcases hs with rfl | rfl
        · exact hx _ this.1
        · exact hx _ this.2
def LinP (x : Stp) (w : World) (e : Ending) (w' : World) : Prop :=
  Below w.heap.size w w' ∧ ((lineS (spOf x) = none ∧ e = .returned (.tuple #[.string ByteArray.empty, .int .i64 1])) ∨ (∃ l, lineS (spOf x) = some (bl l) ∧ e = .returned (.tuple #[.string l, .int .i64 0])))
set_option maxHeartbeats 4000000 in
theorem line_at (x : Stp) (hz : SzS x) (hrg : RgS x) (ha : Option Addr) (n hc : Nat) (hn : x.hs.length = n) (w : World) (hr : RdC w ha (hdV x.hs)) (hT : TabT w) :
    Calls Tryd.prog 5 #[.agg (stA x.k x.a x.b x.c x.t ha n hc)] w (LinP x w) := by
  have HT := Lib.hid hT
  have HZ := Lib.hid hz
  have HG := Lib.hid hrg
  have HN := Lib.hid hn
  have HR := Lib.hid hr
  have HCV := Lib.hid (fun (f : Fm) (hf : f.n ≤ 3) (q : Bool) (hq : covB f (spOf x) = q) (W : World) => covers_at f hf x ha n hc hn q hq W)
  have HWD := Lib.hid (fun (f : Fm) (hf : f.n ≤ 3) (W : World) (hW : Below w.heap.size w W) => words_at f hf x hz hrg ha n hc hn W (hr.later hW) (hT.later hW))
  have LD := Lib.hid (fun W hW => fm_load W (HT.out.later hW))
  have IX := Lib.hid fm_index
  have HLS : Hid (∀ f ∈ fms, f.kind = x.k → covB f (spOf x) = true → lineS (spOf x) = some (Lib.join (wordsS f (spOf x)) [32])) := Lib.hid (fun f hf hk hc => line_of hf hk hc)
  have HWL := Lib.hid (fun f hf => words_len f hf x hz hrg)
  have HNO : Hid ((∀ f ∈ fms, okB (spOf x) f = false) → lineS (spOf x) = none) := Lib.hid (fun h => by
    unfold lineS
    rw [List.find?_eq_none.2 (fun f hf => by rw [h f hf]; decide)]
    rfl)
  have HOK : Hid (∀ f q, (f.kind == x.k) = q → okB (spOf x) f = (q && covB f (spOf x))) := Lib.hid (fun f q h => by unfold okB; rw [← h]; rfl)
  clear hT hz hrg hn hr
  obtain ⟨FM, hFM⟩ : ∃ F, fmC.toArray = F := ⟨_, rfl⟩
  rw [hFM] at LD IX
  clear hFM
  unfold LinP
  obtain ⟨LS, hLS⟩ : ∃ l, lineS (spOf x) = l := ⟨_, rfl⟩
  rw [hLS] at HLS HNO ⊢
  clear hLS
  unfold stA at HCV HWD ⊢
  go_enter Tryd.func5, Tryd.ntmps5
  go_upto_region 1 with fail
  refine code_forget (fun W => Hid (Box W w.heap.size #[.int .i64 x.k, .int .i64 x.a, .int .i64 x.b, .int .i64 x.c, .string x.t, .slice ha n hc] 26) ∧ Hid (Below w.heap.size w W)) ⟨Lib.hid (Box.new w _ _), Lib.hid ((Below.refl w.heap.size w).alloc (Nat.le_refl _) _)⟩ ?_
  rintro w1 ⟨BX, B1⟩
  obtain ⟨xb, hxb⟩ : ∃ b, w.heap.size = b := ⟨_, rfl⟩
  rw [hxb] at BX ⊢
  clear hxb
  have LD1 := LD.out w1 B1.out
  refine wp_region_lit ?_
  refine wpList_loadv rfl rfl rfl LD1 ?_
  clear LD1
  go_wp2_with fail
  go_loopw [7] (fun vj wr => ∃ (j : Nat), j ≤ 8 ∧ vj = .int .i64 (j : Int) ∧ Hid (Box wr xb #[.int .i64 x.k, .int .i64 x.a, .int .i64 x.b, .int .i64 x.c, .string x.t, .slice ha n hc] 26) ∧ Hid (Below w.heap.size w wr) ∧ Hid (∀ i f, i < j → fms[i]? = some f → okB (spOf x) f = false)) (fun vj _ => 8 - (intOf vj).toNat)
  case atStart => exact ⟨0, by omega, rfl, BX, B1, Lib.hid (fun i f h => by omega)⟩
  case round =>
    obtain ⟨j, hj, rfl, BR, HB, HF⟩ := hrel
    clear BX B1
    by_cases hlt : j < 8
    · have hkd : decide ((j : Int) < 8) = true := decide_eq_true (by omega)
      obtain ⟨f, hf⟩ : ∃ f, fms[j]? = some f := ⟨fms[j]'hlt, List.getElem?_eq_getElem _⟩
      have IXF := IX.out j f hf
      have HFM := Lib.hid (List.mem_of_getElem? hf)
      have HFJ := Lib.hid hf
      clear hf
      have hfn := fms_n f HFM.out
      obtain ⟨fk, fw, fn, ft, fh⟩ := f
      have IXF2 := IXF
      clear IXF
      unfold fmA at IXF2
      dsimp only at hfn IXF2
      obtain ⟨fws, hfws⟩ : ∃ s, stB fw = s := ⟨_, rfl⟩
      rw [hfws] at IXF2
      have HFW := Lib.hid hfws
      clear hfws
      have BN := Lib.hid (Box.new wr #[.int .i64 fk, .string fws, .int .i64 (fn : Int), .bool ft, .bool fh] 38)
      have BA := Lib.hid ((Below.refl wr.heap.size wr).alloc (Nat.le_refl _) (.cells #[.int .i64 fk, .string fws, .int .i64 (fn : Int), .bool ft, .bool fh] 38))
      go_upto_region 4 with fail
      obtain ⟨wa, hwa⟩ : ∃ W, wr.alloc (.cells #[.int .i64 fk, .string fws, .int .i64 (fn : Int), .bool ft, .bool fh] 38) = W := ⟨_, rfl⟩
      obtain ⟨fb, hfb⟩ : ∃ b, wr.heap.size = b := ⟨_, rfl⟩
      have BF : Hid (Box wa fb #[.int .i64 fk, .string fws, .int .i64 (fn : Int), .bool ft, .bool fh] 38) := Lib.hid (by have h9 := BN.out; rw [hwa, hfb] at h9; exact h9)
      have BXa := Lib.hid (BR.out.later BA.out)
      have HBa := Lib.hid (HB.out.trans (BA.out.mono HB.out.size))
      rw [hwa] at BXa HBa ⊢
      rw [hfb]
      clear hwa hfb BN BA BR HB IXF2
      have f0 := BF.out.cell 0
      have f1 := BF.out.cell 1
      have f2 := BF.out.cell 2
      have f3 := BF.out.cell 3
      have f4 := BF.out.cell 4
      have lf := BF.out.lt
      have s0 := BXa.out.cell 0
      have s1 := BXa.out.cell 1
      have s2 := BXa.out.cell 2
      have s3 := BXa.out.cell 3
      have s4 := BXa.out.cell 4
      have s5 := BXa.out.cell 5
      have ls := BXa.out.lt
      have CV := Lib.hid (fun q hq => HCV.out ⟨fk, fw, fn, ft, fh⟩ hfn q hq wa)
      have WD := Lib.hid (fun W (hW : Below wa.heap.size wa W) => HWD.out ⟨fk, fw, fn, ft, fh⟩ hfn W (HBa.out.trans (hW.mono HBa.out.size)))
      unfold fmA at CV WD
      rw [HFW.out] at CV WD
      have NXT : Hid (okB (spOf x) ⟨fk, fw, fn, ft, fh⟩ = false → ∀ i f, i < j + 1 → fms[i]? = some f → okB (spOf x) f = false) := Lib.hid (fun h i g hi hg => by
        by_cases hij : i < j
        · exact HF.out i g hij hg
        · have : i = j := by omega
          subst this
          rw [HFJ.out] at hg
          injection hg with hg
          rw [← hg]
          exact h)
      cases hk : (fk == x.k) with
      | false =>
        have HNX := Lib.hid (NXT.out (by rw [HOK.out _ false hk]; rfl))
        clear CV WD
        go_wp2
        go_roundw
        case rel => exact ⟨j + 1, by omega, by go_num, BXa, HBa, HNX⟩
        case measure => simp [intOf]; omega
      | true =>
        obtain ⟨q, hq⟩ : ∃ q, covB ⟨fk, fw, fn, ft, fh⟩ (spOf x) = q := ⟨_, rfl⟩
        have HQ := Lib.hid hq
        have HK := Lib.hid hk
        clear hq
        go_wp2_with fail
        refine (CV.out q HQ.out).mono ?_
        rintro e w6 ⟨rfl, b6⟩
        have B6 := Lib.hid b6
        have BF6 := Lib.hid (BF.out.later b6)
        have BX6 := Lib.hid (BXa.out.later b6)
        have HB6 := Lib.hid (HBa.out.trans (b6.mono HBa.out.size))
        clear b6 f0 f1 f2 f3 f4 lf s0 s1 s2 s3 s4 s5 ls BF BXa HBa CV hk
        cases q with
        | false =>
          have HNX := Lib.hid (NXT.out (by rw [HOK.out _ true HK.out, HQ.out]; rfl))
          clear WD
          go_wp2
          go_roundw
          case rel => exact ⟨j + 1, by omega, by go_num, BX6, HB6, HNX⟩
          case measure => simp [intOf]; omega
        | true =>
          have f0 := BF6.out.cell 0
          have f1 := BF6.out.cell 1
          have f2 := BF6.out.cell 2
          have f3 := BF6.out.cell 3
          have f4 := BF6.out.cell 4
          have lf := BF6.out.lt
          have s0 := BX6.out.cell 0
          have s1 := BX6.out.cell 1
          have s2 := BX6.out.cell 2
          have s3 := BX6.out.cell 3
          have s4 := BX6.out.cell 4
          have s5 := BX6.out.cell 5
          have ls := BX6.out.lt
          go_wp2_with fail
          refine (WD.out w6 B6.out).mono ?_
          rintro e w7 ⟨ss, g, m, c, rfl, hm, hsm, hm3, ho, b7⟩
          have HSM := Lib.hid hsm
          have HM := Lib.hid hm
          have HM3 := Lib.hid hm3
          have HO := Lib.hid ho
          have HB7 := Lib.hid (HB6.out.trans (b7.mono HB6.out.size))
          clear hm hsm hm3 ho b7 f0 f1 f2 f3 f4 lf s0 s1 s2 s3 s4 s5 ls WD
          obtain ⟨t, ht⟩ : ∃ t, stB (Lib.join (ss.map bl) [32]) = t := ⟨_, rfl⟩
          have HTT := Lib.hid ht
          have HLL : Hid (LS = some (bl t)) := Lib.hid (by
            rw [HLS.out _ HFM.out (by simpa using HK.out) HQ.out, ← ht, bl_stB, HSM.out])
          have HM0 : Hid (0 < m) := Lib.hid (by
            rw [← HM.out, ← List.length_map (f := bl), HSM.out]
            unfold wordsS
            simp)
          clear ht
          go_wp2_with fail
          refine (join_at ss g m c _ HM.out HM0.out HM3.out 6000001 (by omega) (fun s hs => by rw [← bl_len]; exact HWL.out _ HFM.out _ (by rw [← HSM.out]; exact List.mem_map_of_mem hs)) t HTT.out w7 HO.out).mono ?_
          rintro e w8 ⟨rfl, b8⟩
          have HB8 := Lib.hid (HB7.out.trans (b8.mono HB7.out.size))
          clear b8
          go_wp2
          go_ret2
          exact ⟨HB8.out, Or.inr ⟨t, HLL.out, rfl⟩⟩
    · have hkd : decide ((j : Int) < 8) = false := decide_eq_false (by omega)
      have HNN := Lib.hid (HNO.out (fun f hf => by obtain ⟨i, hi, he⟩ := List.mem_iff_getElem.1 hf; have hi8 : i < 8 := hi; exact HF.out i f (by omega) (by rw [List.getElem?_eq_getElem hi, he])))
      go_wp2
      go_ret2
      exact ⟨HB.out, Or.inl ⟨HNN.out, rfl⟩⟩
end Go.Proofs.YtbfdklmljcdonaaDoor
