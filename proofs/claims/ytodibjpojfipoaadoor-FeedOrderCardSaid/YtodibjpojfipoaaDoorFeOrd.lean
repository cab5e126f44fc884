/- FeedOrder: headers of other names, and elder ones of the same name, change nothing. -/
import Derived.Test.YtodibjpojfipoaaDoorFeLater
import Derived.Test.YtodibjpojfipoaaDoorApE
import Derived.Test.YtodibjpojfipoaaDoorLast3
import Derived.BigQuiet
import Derived.Deep.QuietTactic
import Derived.Deep.RegionWith
import Derived.Deep.Cut
import Derived.Deep.CutRange
import Derived.Deep.DeepCutAuto
namespace Go.Proofs.YtodibjpojfipoaaDoor
open Go Go.RowKit
set_option linter.unusedVariables false
set_option linter.unusedSimpArgs false
set_option maxRecDepth 10000

def nRa : ByteArray := ⟨#[82, 101, 116, 114, 121, 45, 65, 102, 116, 101, 114]⟩
def nDa : ByteArray := ⟨#[68, 97, 116, 101]⟩
theorem rowHd : RowTy Tryd.prog 29 28 2 32 := ⟨Tryd.underlying29, ⟨.agg #[.string ⟨#[]⟩, .string ⟨#[]⟩], by kernel_rfl, rfl⟩, by decide⟩
theorem hdL_len : ∀ L : HL, (L.flatMap hdL).length = L.length * 2
  | [] => rfl
  | x :: L => by rw [List.flatMap_cons, List.length_append, hdL_len L, List.length_cons]; simp [hdL]; omega
theorem rdC_hdrs {w : World} {g off : Nat} {hs : HL} {sa : Option Addr} (hA : hs ≠ [] → HdAt w g off hs) (hSa : hs ≠ [] → sa = some ⟨g, off, none⟩) : RdC w sa (hs.flatMap hdL) := by
  intro j u hj
  have hjl := (List.getElem?_eq_some_iff.1 hj).1
  rw [hdL_len] at hjl
  obtain ⟨x, hx⟩ : ∃ x, hs[j / 2]? = some x := ⟨_, List.getElem?_eq_getElem (by omega)⟩
  have hne : hs ≠ [] := fun h => by rw [h] at hx; simp at hx
  have h0 := flat_get hdL 2 (fun _ => rfl) hs (j / 2) x hx 0 (.string x.1) rfl
  have h1 := flat_get hdL 2 (fun _ => rfl) hs (j / 2) x hx 1 (.string x.2) rfl
  refine ⟨g, off, hSa hne, ?_⟩
  have hm2 : j % 2 = 0 ∨ j % 2 = 1 := by omega
  rcases hm2 with e | e
  · have ej : j / 2 * 2 + 0 = j := by omega
    rw [ej, hj] at h0
    rw [Option.some.inj h0]
    have := (hA hne).nm (j / 2) x hx
    rw [show off + j / 2 * 2 = off + j from by omega] at this
    exact this
  · have ej : j / 2 * 2 + 1 = j := by omega
    rw [ej, hj] at h1
    rw [Option.some.inj h1]
    have := (hA hne).vl (j / 2) x hx
    rw [show off + j / 2 * 2 + 1 = off + j from by omega] at this
    exact this
theorem rdC_ownF {w : World} {B g size n cap : Nat} {E : TypeId} {ys : List Value} (h : Own w B E size (some ⟨g, 0, none⟩) n cap ys) : RdC w (some ⟨g, 0, none⟩) ys := fun j u hj => ⟨g, 0, rfl, by rw [Nat.zero_add]; exact h.cell hj⟩
theorem hdAt_own {w : World} {B n cap : Nat} {E : TypeId} {a : Option Addr} {hs : HL} (h : Own w B E 2 a n cap (hs.flatMap hdL)) (h0 : 0 < n) : ∃ g, a = some ⟨g, 0, none⟩ ∧ HdAt w g 0 hs := by
  obtain ⟨g, rfl, _, hl⟩ := h.some_ h0
  refine ⟨g, rfl, hl, fun i x hx => ?_, fun i x hx => ?_⟩
  · have := h.cell (flat_get hdL 2 (fun _ => rfl) hs i x hx 0 (.string x.1) rfl)
    simpa using this
  · have := h.cell (flat_get hdL 2 (fun _ => rfl) hs i x hx 1 (.string x.2) rfl)
    simpa using this
theorem one_hd (x y : ByteArray) : ∀ u ∈ [Value.string x, .string y], u.oneCell' = true := by
  intro u hu
  rcases List.mem_cons.1 hu with rfl | hu
  · rfl
  · rcases List.mem_cons.1 hu with rfl | hu
    · rfl
    · cases hu
theorem one_hds (hs : HL) : ∀ u ∈ hs.flatMap hdL, u.oneCell' = true := by
  intro u hu
  obtain ⟨x, _, hx⟩ := List.mem_flatMap.1 hu
  exact one_hd _ _ u hx
theorem flat_snoc (hs : HL) (x : ByteArray × ByteArray) : hs.flatMap hdL ++ [.string x.1, .string x.2] = (hs ++ [x]).flatMap hdL := by
  rw [List.flatMap_append]
  simp [hdL]
theorem val_last (hs : HL) (sv : ByteArray) : valH kRa (hs ++ [(nRa, sv)]) = strL (trL (btL sv)) := by
  unfold valH
  rw [List.length_append, List.length_singleton, bkL_succ (x := (nRa, sv)) (by simp)]
  unfold valB
  rw [if_pos (show lowB nRa = kRa by decide)]
theorem val_two (sv : ByteArray) : valH kRa [(nRa, sv), (nDa, ⟨#[48]⟩)] = strL (trL (btL sv)) := by
  rw [show valH kRa [(nRa, sv), (nDa, ⟨#[48]⟩)] = valB kRa [(1, (nDa, ⟨#[48]⟩)), (0, (nRa, sv))] from rfl]
  simp only [valB]
  rw [if_neg (show ¬ lowB nDa = kRa by decide), if_pos (show lowB nRa = kRa by decide)]
set_option maxRecDepth 100000 in
set_option maxHeartbeats 8000000 in
theorem feedOrder_walk (st : Int) (x : Option Addr × Nat × Nat) (sv : ByteArray) (now : Int) (w : World) (_w0 : (Lit.int .i64 st).wf = true) (hx : IsHdrs w x) (_w2 : sv.size ≤ maxLen) (_w3 : (Lit.int .i64 now).wf = true) (hT : TabD w) :
    Calls Tryd.prog 4 #[.int .i64 st, .slice x.1 x.2.1 x.2.2, .string sv, .int .i64 now] w fun e w' => e = .returned (.bool true) ∧ Below w.heap.size w w' := by
  obtain ⟨sa, n, c⟩ := x
  obtain ⟨hs, hl, _, hb, hz, g, off, hsa, hat⟩ := hx
  dsimp only at hl hb hsa ⊢
  have SM := Lib.hid (fsmall_at sa g off c hs (by omega) hz w hat hsa)
  have AW := Lib.hid (fun (W : World) (hW : Below w.heap.size w W) => fawake_at W (hT.later hW))
  obtain ⟨Y, hY⟩ := YearIs.some_ (nowD (capI now / 1000)) (nowD_bd _).1 (nowD_bd _).2
  have hat' : ∀ (W : World), Below w.heap.size w W → hs ≠ [] → HdAt W g off hs := fun W hW h => ⟨Nat.lt_of_lt_of_le (hat h).lt hW.size, fun i x hx => (hW.cell (hat h).lt).trans ((hat h).nm i x hx), fun i x hx => (hW.cell (hat h).lt).trans ((hat h).vl i x hx)⟩
  obtain ⟨q, hq⟩ : ∃ q, decide (bulkH hs < 3000) = q := ⟨_, rfl⟩
  have HQ : Hid (q = true → bulkH hs < 3000) := Lib.hid (fun h => by rw [h] at hq; exact of_decide_eq_true hq)
  rw [hq, hl] at SM
  obtain ⟨C, hC⟩ : ∃ C, classI st = C := ⟨_, rfl⟩
  obtain ⟨R, hR⟩ : ∃ R, (retF Y now (btL (strL (trL (btL (strL (trL (btL sv)))))))).getD 0 = R := ⟨_, rfl⟩
  obtain ⟨d1, hd1⟩ : ∃ s, (resO now (hs ++ [(nRa, sv)])).getD 0 = s := ⟨_, rfl⟩
  obtain ⟨d2, hd2⟩ : ∃ s, (resO now [(nRa, sv), (nDa, ⟨#[48]⟩)]).getD 0 = s := ⟨_, rfl⟩
  have FR0 : Hid (q = true → sv.size ≤ 300 → ∀ (B : Nat) (a' : Option Addr) (cap' : Nat) (W : World), Below w.heap.size w W → Own W B 28 2 a' (n + 1) cap' ((hs ++ [(nRa, sv)]).flatMap hdL) →
      Calls Tryd.prog 10 #[.int .i64 st, .slice a' (n + 1) cap', .int .i64 now] W fun e w' => e = .returned (.agg #[.int .i64 C, .int .i64 R, .int .i64 d1]) ∧ Below W.heap.size W w') := Lib.hid (fun hq' hv B a' cap' W hW hO => by
    have hf := HQ.out hq'
    obtain ⟨f1, f2⟩ := bulkH_few hs
    obtain ⟨g', rfl, hA⟩ := hdAt_own hO (by omega)
    have := ffrom_at st (some ⟨g', 0, none⟩) g' 0 cap' (hs ++ [(nRa, sv)]) (by rw [List.length_append, List.length_singleton]; omega) (fun x hx => by
      rcases List.mem_append.1 hx with hx | hx
      · have := f2 x hx; omega
      · rw [List.mem_singleton] at hx
        subst hx
        exact ⟨(by decide : nRa.size ≤ 1000000), (by dsimp only; omega)⟩) now Y hY W (hT.later hW) (fun _ => hA) (fun _ => rfl)
    rw [hC, hd1, show retO Y now (hs ++ [(nRa, sv)]) = retF Y now (btL (strL (trL (btL (strL (trL (btL sv)))))) ) from by unfold retO; rw [val_last], hR, List.length_append, List.length_singleton, hl] at this
    exact this)
  have FN0 : Hid (sv.size ≤ 300 → ∀ (g' : Nat) (W : World), Below w.heap.size w W → HdAt W g' 0 [(nRa, sv), (nDa, ⟨#[48]⟩)] → Calls Tryd.prog 10 #[.int .i64 st, .slice (some ⟨g', 0, none⟩) 2 2, .int .i64 now] W fun e w' => e = .returned (.agg #[.int .i64 C, .int .i64 R, .int .i64 d2]) ∧ Below W.heap.size W w') := Lib.hid (fun hv g' W hW hA => by
    have := ffrom_at st (some ⟨g', 0, none⟩) g' 0 2 [(nRa, sv), (nDa, ⟨#[48]⟩)] (by show 2 ≤ 1000000; decide) (fun x hx => by
      rcases List.mem_cons.1 hx with rfl | hx
      · exact ⟨(by decide : nRa.size ≤ 1000000), (by dsimp only; omega)⟩
      · rw [List.mem_singleton] at hx
        subst hx
        exact ⟨by decide, by decide⟩) now Y hY W (hT.later hW) (fun _ => hA) (fun _ => rfl)
    rw [hC, hd2, show retO Y now [(nRa, sv), (nDa, ⟨#[48]⟩)] = retF Y now (btL (strL (trL (btL (strL (trL (btL sv)))))) ) from by unfold retO; rw [val_two], hR] at this
    exact this)
  have RDC0 : Hid (∀ W, Below w.heap.size w W → RdC W sa (hs.flatMap hdL)) := Lib.hid (fun W hW => rdC_hdrs (hat' W hW) hsa)
  have LEN : Hid ((hs.flatMap hdL).length = n * 2) := Lib.hid (by
    rw [← hl]
    exact hdL_len hs)
  have ONE := Lib.hid (one_hds hs)
  have hn : q = true → n ≤ 300 := fun h => by have := HQ.out h; have := (bulkH_few hs).1; omega
  clear hq hC hR hd1 hd2 hY hat hat' hsa hb hz hT _w0 _w3 hl HQ
  obtain ⟨E, hE⟩ : ∃ b, decide (300 < sv.size) = b := ⟨_, rfl⟩
  have hE2 : decide ((300 : Int) < (sv.size : Int)) = E := by rw [← hE, Bool.eq_iff_iff, decide_eq_true_eq, decide_eq_true_eq]; omega
  go_enter Tryd.func4, Tryd.ntmps4
  go_wp2_with fail
  refine SM.out.mono ?_
  rintro e w0 ⟨rfl, hb⟩
  have HB1 := Lib.hid hb
  clear hb SM
  cases q with
  | false =>
    go_wp2_with fail
    refine (AW.out _ HB1.out).mono ?_
    rintro e w2 ⟨rfl, hb⟩
    have HB2 := Lib.hid (HB1.out.trans (hb.mono HB1.out.size))
    clear hb
    go_wp2
    go_ret
    exact ⟨rfl, HB2.out⟩
  | true =>
    cases E with
    | true =>
      go_wp2_with fail
      refine (AW.out _ HB1.out).mono ?_
      rintro e w2 ⟨rfl, hb⟩
      have HB2 := Lib.hid (HB1.out.trans (hb.mono HB1.out.size))
      clear hb
      go_wp2
      go_ret
      exact ⟨rfl, HB2.out⟩
    | false =>
      have hv : sv.size ≤ 300 := by have := of_decide_eq_false hE; omega
      have hn3 := hn (by simp)
      go_upto_region 4 with fail
      refine code_forget (fun W => Hid (Box W w0.heap.size #[.string nRa, .string sv] 28) ∧ Hid (Below w0.heap.size w0 W)) ⟨Lib.hid (Box.new w0 _ _), Lib.hid ((Below.refl w0.heap.size w0).alloc (Nat.le_refl _) _)⟩ ?_
      obtain ⟨bh, hbh⟩ : ∃ x, w0.heap.size = x := ⟨_, rfl⟩
      have HBH := Lib.hid hbh
      rintro w1 ⟨BX, B0⟩
      have HB2 := Lib.hid (HB1.out.trans (B0.out.mono HB1.out.size))
      rw [hbh] at BX ⊢
      clear hbh B0 HB1
      have hlH := BX.out.lt
      have z0 : w1.cell? ⟨bh, 0, none⟩ = some (.string nRa) := BX.out.cell 0
      have z1 : w1.cell? ⟨bh, 1, none⟩ = some (.string sv) := BX.out.cell 1
      have FR := Lib.hid (fun (a' : Option Addr) (cap' : Nat) (W : World) (hW : Below w1.heap.size w1 W) (hO : Own W w1.heap.size 28 2 a' (n + 1) cap' ((hs ++ [(nRa, sv)]).flatMap hdL)) => FR0.out (by simp) hv w1.heap.size a' cap' W (HB2.out.trans (hW.mono HB2.out.size)) hO)
      have FN := Lib.hid (FN0.out hv)
      have RDC := Lib.hid (fun (W : World) (hW : Below w1.heap.size w1 W) => RDC0.out W (HB2.out.trans (hW.mono HB2.out.size)))
      clear FR0 FN0 RDC0 hn hE hE2 hv
      go_cut [10] from 12 (fun v wx => ∃ r, v = .pointer (some ⟨r, 0, none⟩) ∧ Hid (Box wx r #[.int .i64 C, .int .i64 R, .int .i64 d1] 34) ∧ Hid (Below w1.heap.size w1 wx))
      case first =>
        refine wp_region_last 10 (fun w' => Below w1.heap.size w1 w') (by kernel_rfl) ((Below.refl _ _).drew) (fun hHeld hClosed => ?_)
        refine last_forget (fun W => Hid (Below w1.heap.size w1 W)) (Lib.hid ((Below.refl _ _).drew)) ?_
        clear hHeld
        rintro wq0 BL
        have hHeld := BL.out
        refine wpAnyL_take (i := 0) (v := ?_) rfl (by kernel_rfl) (by kernel_rfl) (by kernel_rfl) (by kernel_rfl) (fun _ _ _ h => h) (by kernel_rfl) hClosed (Or.inl ⟨by rfl, ?_⟩) hHeld (fun hClosed => ?_)
        rotate_left
        · intro wv hSw; go_simp; all_goals (with_reducible rfl)
        (try simp only [List.getElem_toArray, List.getElem_cons_zero, put_at, List.set])
        refine wpAnyL_take (i := 2) (v := ?_) rfl (by kernel_rfl) (by kernel_rfl) (by kernel_rfl) (by kernel_rfl) (fun _ _ _ h => h) (by kernel_rfl) hClosed (Or.inl ⟨by rfl, ?_⟩) hHeld (fun hClosed => ?_)
        rotate_left
        · intro wv hSw; go_simp; all_goals (with_reducible rfl)
        (try simp only [List.getElem_toArray, List.getElem_cons_succ, List.getElem_cons_zero, put_at, List.set])
        refine wpAnyL_take (i := 4) (v := ?_) rfl (by kernel_rfl) (by kernel_rfl) (by kernel_rfl) (by kernel_rfl) (fun _ _ _ h => h) (by kernel_rfl) hClosed (Or.inl ⟨by rfl, ?_⟩) hHeld (fun hClosed => ?_)
        rotate_left
        · intro wv hSw; have q0 := (hSw.cell hlH).trans z0; have q1 := (hSw.cell hlH).trans z1; go_simp; all_goals (with_reducible rfl)
        (try simp only [List.getElem_toArray, List.getElem_cons_succ, List.getElem_cons_zero, put_at, List.set])
        refine wpAnyL_take (i := 7) (v := ?_) rfl (by kernel_rfl) (by kernel_rfl) (by kernel_rfl) (by kernel_rfl) (fun _ _ _ h => h) (by kernel_rfl) hClosed (Or.inl ⟨by rfl, ?_⟩) hHeld (fun hClosed => ?_)
        rotate_left
        · intro wv hSw; go_simp; all_goals (with_reducible rfl)
        (try simp only [List.getElem_toArray, List.getElem_cons_succ, List.getElem_cons_zero, put_at, List.set])
        refine wpAnyL_three (i := 1) (j := 5) (l := 9) rfl rfl rfl (by kernel_rfl) (by kernel_rfl) (by kernel_rfl) (by kernel_rfl) hClosed (fun KK hK => ?_) (fun KK hK => ?_) (fun KK hK => ?_)
        · go_simp
          refine hK.out _ _ ?_ (fun hClosed hHeld => ?_)
          · exact hHeld.alloc hHeld.size _
          clear hK KK
          (first | simp only [List.getElem_toArray, List.getElem_cons_succ, List.getElem_cons_zero, put_at, List.set] | (try simp only [put_at, List.set]))
          refine last_forget (fun W => Hid (Below w1.heap.size w1 W) ∧ Hid (Own W w1.heap.size 28 2 (some ⟨wq0.heap.size, 0, none⟩) 0 0 [])) ⟨Lib.hid hHeld, Lib.hid (Own.lit (w := wq0) (B := w1.heap.size) (n := 0) (size := 2) (cs := #[]) (E := 28) BL.out.size (by decide) rfl)⟩ ?_
          obtain ⟨g1, hg1⟩ : ∃ g, wq0.heap.size = g := ⟨_, rfl⟩
          rw [hg1]
          clear hg1 hHeld BL
          rintro wq1 ⟨BL, o1⟩
          have hHeld := BL.out
          refine wpAnyL_three (i := 3) (j := 5) (l := 9) rfl rfl rfl (by kernel_rfl) (by kernel_rfl) (by kernel_rfl) (by kernel_rfl) hClosed (fun KK hK => ?_) (fun KK hK => ?_) (fun KK hK => ?_)
          · refine step_appE rowHd rfl _ _ rfl w1.heap.size (some ⟨g1, 0, none⟩) 0 0 [] rfl o1.out sa n c (hs.flatMap hdL) rfl LEN.out (RDC.out _ hHeld) ONE.out (by omega) (by decide) hHeld.size n (Nat.zero_add n) (hs.flatMap hdL) (List.nil_append _) ?_
            rintro a3 cap3 wq2 ow gr bl lc
            refine hK.out _ _ ?_ (fun hClosed hHeld => ?_)
            · exact hHeld.trans bl
            clear hK KK
            (first | simp only [List.getElem_toArray, List.getElem_cons_succ, List.getElem_cons_zero, put_at, List.set] | (try simp only [put_at, List.set]))
            have o3 := Lib.hid ow
            have BL := Lib.hid hHeld
            clear ow gr bl lc o1
            refine wpAnyL_two (i := 5) (j := 9) rfl rfl (by kernel_rfl) (by kernel_rfl) (by kernel_rfl) hClosed (fun KK hK => ?_) (fun KK hK => ?_)
            · go_simp
              refine hK.out _ _ ?_ (fun hClosed hHeld => ?_)
              · exact hHeld.alloc hHeld.size _
              clear hK KK
              (first | simp only [List.getElem_toArray, List.getElem_cons_succ, List.getElem_cons_zero, put_at, List.set] | (try simp only [put_at, List.set]))
              refine last_forget (fun W => Hid (Below w1.heap.size w1 W) ∧ Hid (Own W w1.heap.size 28 2 a3 n cap3 (hs.flatMap hdL)) ∧ Hid (Own W w1.heap.size 28 2 (some ⟨wq2.heap.size, 0, none⟩) 1 1 [.string nRa, .string sv])) ⟨Lib.hid hHeld, Lib.hid (o3.out.alloc _), Lib.hid (Own.lit (w := wq2) (B := w1.heap.size) (n := 1) (size := 2) (cs := #[.string nRa, .string sv]) (E := 28) BL.out.size (by decide) rfl)⟩ ?_
              obtain ⟨g5, hg5⟩ : ∃ g, wq2.heap.size = g := ⟨_, rfl⟩
              rw [hg5]
              clear hg5 hHeld BL o3
              rintro wq3 ⟨BL, o3, o5⟩
              have hHeld := BL.out
              refine wpAnyL_two (i := 6) (j := 9) rfl rfl (by kernel_rfl) (by kernel_rfl) (by kernel_rfl) hClosed (fun KK hK => ?_) (fun KK hK => ?_)
              · refine step_appE rowHd rfl _ _ rfl w1.heap.size a3 n cap3 (hs.flatMap hdL) rfl o3.out (some ⟨g5, 0, none⟩) 1 1 [.string nRa, .string sv] rfl rfl (rdC_ownF o5.out) (one_hd _ _) (by omega) (by decide) hHeld.size (n + 1) rfl ((hs ++ [(nRa, sv)]).flatMap hdL) (flat_snoc _ (nRa, sv)) ?_
                rintro a6 cap6 wq4 ow gr bl lc
                refine hK.out _ _ ?_ (fun hClosed hHeld => ?_)
                · exact hHeld.trans bl
                clear hK KK
                (first | simp only [List.getElem_toArray, List.getElem_cons_succ, List.getElem_cons_zero, put_at, List.set] | (try simp only [put_at, List.set]))
                have o6 := Lib.hid ow
                have BL := Lib.hid hHeld
                clear ow gr bl lc o3 o5
                refine wpAnyL_two (i := 8) (j := 9) rfl rfl (by kernel_rfl) (by kernel_rfl) (by kernel_rfl) hClosed (fun KK hK => ?_) (fun KK hK => ?_)
                · go_simp
                  refine (FR.out _ _ _ hHeld o6.out).mono ?_
                  rintro e wq5 ⟨rfl, hb8⟩
                  go_wp2_with fail
                  refine hK.out _ _ ?_ (fun hClosed hHeld => ?_)
                  · exact hHeld.trans (hb8.mono hHeld.size)
                  clear hK KK
                  (first | simp only [List.getElem_toArray, List.getElem_cons_succ, List.getElem_cons_zero, put_at, List.set] | (try simp only [put_at, List.set]))
                  have BL := Lib.hid hHeld
                  clear hb8 o6
                  refine wpAnyL_one (i := 9) rfl (by kernel_rfl) (by kernel_rfl) hClosed (fun KK hK => ?_)
                  go_simp
                  refine hK.out _ _ ?_ (fun hClosed hHeld => ?_)
                  · exact hHeld.alloc hHeld.size _
                  clear hK KK
                  (first | simp only [List.getElem_toArray, List.getElem_cons_succ, List.getElem_cons_zero, put_at, List.set] | (try simp only [put_at, List.set]))
                  refine last_forget (fun W => Hid (Below w1.heap.size w1 W) ∧ Hid (Box W wq5.heap.size #[.int .i64 0, .int .i64 0, .int .i64 0] 34)) ⟨Lib.hid hHeld, Lib.hid (Box.new wq5 #[.int .i64 0, .int .i64 0, .int .i64 0] 34)⟩ ?_
                  obtain ⟨r9, hr9⟩ : ∃ g, wq5.heap.size = g := ⟨_, rfl⟩
                  have NB : Hid (w1.heap.size ≤ r9) := Lib.hid (by have := BL.out.size; omega)
                  rw [hr9]
                  clear hr9 hHeld BL
                  rintro wq6 ⟨BL, r9b⟩
                  have hHeld := BL.out
                  refine wpAnyL_last rfl (by kernel_rfl) (by kernel_rfl) (fun KK hK => ?_)
                  have l9 := r9b.out.lt
                  have c0 := r9b.out.cell 0
                  have c1 := r9b.out.cell 1
                  have c2 := r9b.out.cell 2
                  have f0 := r9b.out.free 0
                  have f1 := r9b.out.free 1
                  have f2 := r9b.out.free 2
                  go_simp
                  refine hK.out _ _ ?_
                  (try simp only [put_at, List.set])
                  go_wp2
                  go_meet
                  exact ⟨r9, rfl, Lib.hid (((r9b.out.set 0 (.int .i64 C)).set 1 (.int .i64 R)).set 2 (.int .i64 d1)), Lib.hid (((BL.out.setCell (p := ⟨r9, 0, none⟩) NB.out (.int .i64 C)).setCell (p := ⟨r9, 1, none⟩) NB.out (.int .i64 R)).setCell (p := ⟨r9, 2, none⟩) NB.out (.int .i64 d1))⟩
                · go_simp
                  refine hK.out _ _ ?_ (fun hClosed hHeld => ?_)
                  · exact hHeld.alloc hHeld.size _
                  clear hK KK
                  (first | simp only [List.getElem_toArray, List.getElem_cons_succ, List.getElem_cons_zero, put_at, List.set] | (try simp only [put_at, List.set]))
                  refine last_forget (fun W => Hid (Below w1.heap.size w1 W) ∧ Hid (Own W w1.heap.size 28 2 a6 (n + 1) cap6 ((hs ++ [(nRa, sv)]).flatMap hdL)) ∧ Hid (Box W wq4.heap.size #[.int .i64 0, .int .i64 0, .int .i64 0] 34)) ⟨Lib.hid hHeld, Lib.hid (o6.out.alloc _), Lib.hid (Box.new wq4 #[.int .i64 0, .int .i64 0, .int .i64 0] 34)⟩ ?_
                  obtain ⟨r9, hr9⟩ : ∃ g, wq4.heap.size = g := ⟨_, rfl⟩
                  have NB : Hid (w1.heap.size ≤ r9) := Lib.hid (by have := BL.out.size; omega)
                  rw [hr9]
                  clear hr9 hHeld BL o6
                  rintro wq5 ⟨BL, o6, r9b⟩
                  have hHeld := BL.out
                  refine wpAnyL_one (i := 8) rfl (by kernel_rfl) (by kernel_rfl) hClosed (fun KK hK => ?_)
                  go_simp
                  refine (FR.out _ _ _ hHeld o6.out).mono ?_
                  rintro e wq6 ⟨rfl, hb8⟩
                  go_wp2_with fail
                  refine hK.out _ _ ?_ (fun hClosed hHeld => ?_)
                  · exact hHeld.trans (hb8.mono hHeld.size)
                  clear hK KK
                  (first | simp only [List.getElem_toArray, List.getElem_cons_succ, List.getElem_cons_zero, put_at, List.set] | (try simp only [put_at, List.set]))
                  have BL := Lib.hid hHeld
                  have r9b' := Lib.hid (r9b.out.later hb8)
                  clear r9b
                  have r9b := r9b'
                  clear r9b'
                  clear hb8 o6
                  refine wpAnyL_last rfl (by kernel_rfl) (by kernel_rfl) (fun KK hK => ?_)
                  have l9 := r9b.out.lt
                  have c0 := r9b.out.cell 0
                  have c1 := r9b.out.cell 1
                  have c2 := r9b.out.cell 2
                  have f0 := r9b.out.free 0
                  have f1 := r9b.out.free 1
                  have f2 := r9b.out.free 2
                  go_simp
                  refine hK.out _ _ ?_
                  (try simp only [put_at, List.set])
                  go_wp2
                  go_meet
                  exact ⟨r9, rfl, Lib.hid (((r9b.out.set 0 (.int .i64 C)).set 1 (.int .i64 R)).set 2 (.int .i64 d1)), Lib.hid (((BL.out.setCell (p := ⟨r9, 0, none⟩) NB.out (.int .i64 C)).setCell (p := ⟨r9, 1, none⟩) NB.out (.int .i64 R)).setCell (p := ⟨r9, 2, none⟩) NB.out (.int .i64 d1))⟩
              · go_simp
                refine hK.out _ _ ?_ (fun hClosed hHeld => ?_)
                · exact hHeld.alloc hHeld.size _
                clear hK KK
                (first | simp only [List.getElem_toArray, List.getElem_cons_succ, List.getElem_cons_zero, put_at, List.set] | (try simp only [put_at, List.set]))
                refine last_forget (fun W => Hid (Below w1.heap.size w1 W) ∧ Hid (Own W w1.heap.size 28 2 a3 n cap3 (hs.flatMap hdL)) ∧ Hid (Own W w1.heap.size 28 2 (some ⟨g5, 0, none⟩) 1 1 [.string nRa, .string sv]) ∧ Hid (Box W wq3.heap.size #[.int .i64 0, .int .i64 0, .int .i64 0] 34)) ⟨Lib.hid hHeld, Lib.hid (o3.out.alloc _), Lib.hid (o5.out.alloc _), Lib.hid (Box.new wq3 #[.int .i64 0, .int .i64 0, .int .i64 0] 34)⟩ ?_
                obtain ⟨r9, hr9⟩ : ∃ g, wq3.heap.size = g := ⟨_, rfl⟩
                have NB : Hid (w1.heap.size ≤ r9) := Lib.hid (by have := BL.out.size; omega)
                have NA : Hid (some r9 ≠ a3.map (·.block)) := Lib.hid (fun e => by have := (own_ltF o3.out (own_mapF o3.out e.symm)).2; omega)
                rw [hr9]
                clear hr9 hHeld BL o3 o5
                rintro wq4 ⟨BL, o3, o5, r9b⟩
                have hHeld := BL.out
                refine wpAnyL_one (i := 6) rfl (by kernel_rfl) (by kernel_rfl) hClosed (fun KK hK => ?_)
                refine step_appE rowHd rfl _ _ rfl w1.heap.size a3 n cap3 (hs.flatMap hdL) rfl o3.out (some ⟨g5, 0, none⟩) 1 1 [.string nRa, .string sv] rfl rfl (rdC_ownF o5.out) (one_hd _ _) (by omega) (by decide) hHeld.size (n + 1) rfl ((hs ++ [(nRa, sv)]).flatMap hdL) (flat_snoc _ (nRa, sv)) ?_
                rintro a6 cap6 wq5 ow gr bl lc
                refine hK.out _ _ ?_ (fun hClosed hHeld => ?_)
                · exact hHeld.trans bl
                clear hK KK
                (first | simp only [List.getElem_toArray, List.getElem_cons_succ, List.getElem_cons_zero, put_at, List.set] | (try simp only [put_at, List.set]))
                have o6 := Lib.hid ow
                have BL := Lib.hid hHeld
                have r9b' : Hid (Box wq5 r9 #[.int .i64 0, .int .i64 0, .int .i64 0] 34) := Lib.hid ((gr.block r9 r9b.out.lt NA.out).trans r9b.out)
                clear ow gr bl lc o3 o5 r9b NA
                have r9b := r9b'
                clear r9b'
                refine wpAnyL_one (i := 8) rfl (by kernel_rfl) (by kernel_rfl) hClosed (fun KK hK => ?_)
                go_simp
                refine (FR.out _ _ _ hHeld o6.out).mono ?_
                rintro e wq6 ⟨rfl, hb8⟩
                go_wp2_with fail
                refine hK.out _ _ ?_ (fun hClosed hHeld => ?_)
                · exact hHeld.trans (hb8.mono hHeld.size)
                clear hK KK
                (first | simp only [List.getElem_toArray, List.getElem_cons_succ, List.getElem_cons_zero, put_at, List.set] | (try simp only [put_at, List.set]))
                have BL := Lib.hid hHeld
                have r9b' := Lib.hid (r9b.out.later hb8)
                clear r9b
                have r9b := r9b'
                clear r9b'
                clear hb8 o6
                refine wpAnyL_last rfl (by kernel_rfl) (by kernel_rfl) (fun KK hK => ?_)
                have l9 := r9b.out.lt
                have c0 := r9b.out.cell 0
                have c1 := r9b.out.cell 1
                have c2 := r9b.out.cell 2
                have f0 := r9b.out.free 0
                have f1 := r9b.out.free 1
                have f2 := r9b.out.free 2
                go_simp
                refine hK.out _ _ ?_
                (try simp only [put_at, List.set])
                go_wp2
                go_meet
                exact ⟨r9, rfl, Lib.hid (((r9b.out.set 0 (.int .i64 C)).set 1 (.int .i64 R)).set 2 (.int .i64 d1)), Lib.hid (((BL.out.setCell (p := ⟨r9, 0, none⟩) NB.out (.int .i64 C)).setCell (p := ⟨r9, 1, none⟩) NB.out (.int .i64 R)).setCell (p := ⟨r9, 2, none⟩) NB.out (.int .i64 d1))⟩
            · go_simp
              refine hK.out _ _ ?_ (fun hClosed hHeld => ?_)
              · exact hHeld.alloc hHeld.size _
              clear hK KK
              (first | simp only [List.getElem_toArray, List.getElem_cons_succ, List.getElem_cons_zero, put_at, List.set] | (try simp only [put_at, List.set]))
              refine last_forget (fun W => Hid (Below w1.heap.size w1 W) ∧ Hid (Own W w1.heap.size 28 2 a3 n cap3 (hs.flatMap hdL)) ∧ Hid (Box W wq2.heap.size #[.int .i64 0, .int .i64 0, .int .i64 0] 34)) ⟨Lib.hid hHeld, Lib.hid (o3.out.alloc _), Lib.hid (Box.new wq2 #[.int .i64 0, .int .i64 0, .int .i64 0] 34)⟩ ?_
              obtain ⟨r9, hr9⟩ : ∃ g, wq2.heap.size = g := ⟨_, rfl⟩
              have NB : Hid (w1.heap.size ≤ r9) := Lib.hid (by have := BL.out.size; omega)
              have NA : Hid (some r9 ≠ a3.map (·.block)) := Lib.hid (fun e => by have := (own_ltF o3.out (own_mapF o3.out e.symm)).2; omega)
              rw [hr9]
              clear hr9 hHeld BL o3
              rintro wq3 ⟨BL, o3, r9b⟩
              have hHeld := BL.out
              refine wpAnyL_one (i := 5) rfl (by kernel_rfl) (by kernel_rfl) hClosed (fun KK hK => ?_)
              go_simp
              refine hK.out _ _ ?_ (fun hClosed hHeld => ?_)
              · exact hHeld.alloc hHeld.size _
              clear hK KK
              (first | simp only [List.getElem_toArray, List.getElem_cons_succ, List.getElem_cons_zero, put_at, List.set] | (try simp only [put_at, List.set]))
              refine last_forget (fun W => Hid (Below w1.heap.size w1 W) ∧ Hid (Own W w1.heap.size 28 2 a3 n cap3 (hs.flatMap hdL)) ∧ Hid (Own W w1.heap.size 28 2 (some ⟨wq3.heap.size, 0, none⟩) 1 1 [.string nRa, .string sv]) ∧ Hid (Box W r9 #[.int .i64 0, .int .i64 0, .int .i64 0] 34)) ⟨Lib.hid hHeld, Lib.hid (o3.out.alloc _), Lib.hid (Own.lit (w := wq3) (B := w1.heap.size) (n := 1) (size := 2) (cs := #[.string nRa, .string sv]) (E := 28) BL.out.size (by decide) rfl), Lib.hid (r9b.out.alloc _)⟩ ?_
              obtain ⟨g5, hg5⟩ : ∃ g, wq3.heap.size = g := ⟨_, rfl⟩
              rw [hg5]
              clear hg5 hHeld BL o3 r9b
              rintro wq4 ⟨BL, o3, o5, r9b⟩
              have hHeld := BL.out
              refine wpAnyL_one (i := 6) rfl (by kernel_rfl) (by kernel_rfl) hClosed (fun KK hK => ?_)
              refine step_appE rowHd rfl _ _ rfl w1.heap.size a3 n cap3 (hs.flatMap hdL) rfl o3.out (some ⟨g5, 0, none⟩) 1 1 [.string nRa, .string sv] rfl rfl (rdC_ownF o5.out) (one_hd _ _) (by omega) (by decide) hHeld.size (n + 1) rfl ((hs ++ [(nRa, sv)]).flatMap hdL) (flat_snoc _ (nRa, sv)) ?_
              rintro a6 cap6 wq5 ow gr bl lc
              refine hK.out _ _ ?_ (fun hClosed hHeld => ?_)
              · exact hHeld.trans bl
              clear hK KK
              (first | simp only [List.getElem_toArray, List.getElem_cons_succ, List.getElem_cons_zero, put_at, List.set] | (try simp only [put_at, List.set]))
              have o6 := Lib.hid ow
              have BL := Lib.hid hHeld
              have r9b' : Hid (Box wq5 r9 #[.int .i64 0, .int .i64 0, .int .i64 0] 34) := Lib.hid ((gr.block r9 r9b.out.lt NA.out).trans r9b.out)
              clear ow gr bl lc o3 o5 r9b NA
              have r9b := r9b'
              clear r9b'
              refine wpAnyL_one (i := 8) rfl (by kernel_rfl) (by kernel_rfl) hClosed (fun KK hK => ?_)
              go_simp
              refine (FR.out _ _ _ hHeld o6.out).mono ?_
              rintro e wq6 ⟨rfl, hb8⟩
              go_wp2_with fail
              refine hK.out _ _ ?_ (fun hClosed hHeld => ?_)
              · exact hHeld.trans (hb8.mono hHeld.size)
              clear hK KK
              (first | simp only [List.getElem_toArray, List.getElem_cons_succ, List.getElem_cons_zero, put_at, List.set] | (try simp only [put_at, List.set]))
              have BL := Lib.hid hHeld
              have r9b' := Lib.hid (r9b.out.later hb8)
              clear r9b
              have r9b := r9b'
              clear r9b'
              clear hb8 o6
              refine wpAnyL_last rfl (by kernel_rfl) (by kernel_rfl) (fun KK hK => ?_)
              have l9 := r9b.out.lt
              have c0 := r9b.out.cell 0
              have c1 := r9b.out.cell 1
              have c2 := r9b.out.cell 2
              have f0 := r9b.out.free 0
              have f1 := r9b.out.free 1
              have f2 := r9b.out.free 2
              go_simp
              refine hK.out _ _ ?_
              (try simp only [put_at, List.set])
              go_wp2
              go_meet
              exact ⟨r9, rfl, Lib.hid (((r9b.out.set 0 (.int .i64 C)).set 1 (.int .i64 R)).set 2 (.int .i64 d1)), Lib.hid (((BL.out.setCell (p := ⟨r9, 0, none⟩) NB.out (.int .i64 C)).setCell (p := ⟨r9, 1, none⟩) NB.out (.int .i64 R)).setCell (p := ⟨r9, 2, none⟩) NB.out (.int .i64 d1))⟩
          · go_simp
            refine hK.out _ _ ?_ (fun hClosed hHeld => ?_)
            · exact hHeld.alloc hHeld.size _
            clear hK KK
            (first | simp only [List.getElem_toArray, List.getElem_cons_succ, List.getElem_cons_zero, put_at, List.set] | (try simp only [put_at, List.set]))
            refine last_forget (fun W => Hid (Below w1.heap.size w1 W) ∧ Hid (Own W w1.heap.size 28 2 (some ⟨g1, 0, none⟩) 0 0 []) ∧ Hid (Own W w1.heap.size 28 2 (some ⟨wq1.heap.size, 0, none⟩) 1 1 [.string nRa, .string sv])) ⟨Lib.hid hHeld, Lib.hid (o1.out.alloc _), Lib.hid (Own.lit (w := wq1) (B := w1.heap.size) (n := 1) (size := 2) (cs := #[.string nRa, .string sv]) (E := 28) BL.out.size (by decide) rfl)⟩ ?_
            obtain ⟨g5, hg5⟩ : ∃ g, wq1.heap.size = g := ⟨_, rfl⟩
            have NE : Hid (g5 ≠ g1) := Lib.hid (by have := o1.out.lt.2; omega)
            rw [hg5]
            clear hg5 hHeld BL o1
            rintro wq2 ⟨BL, o1, o5⟩
            have hHeld := BL.out
            refine wpAnyL_two (i := 3) (j := 9) rfl rfl (by kernel_rfl) (by kernel_rfl) (by kernel_rfl) hClosed (fun KK hK => ?_) (fun KK hK => ?_)
            · refine step_appE rowHd rfl _ _ rfl w1.heap.size (some ⟨g1, 0, none⟩) 0 0 [] rfl o1.out sa n c (hs.flatMap hdL) rfl LEN.out (RDC.out _ hHeld) ONE.out (by omega) (by decide) hHeld.size n (Nat.zero_add n) (hs.flatMap hdL) (List.nil_append _) ?_
              rintro a3 cap3 wq3 ow gr bl lc
              refine hK.out _ _ ?_ (fun hClosed hHeld => ?_)
              · exact hHeld.trans bl
              clear hK KK
              (first | simp only [List.getElem_toArray, List.getElem_cons_succ, List.getElem_cons_zero, put_at, List.set] | (try simp only [put_at, List.set]))
              have o3 := Lib.hid ow
              have BL := Lib.hid hHeld
              have o5' := Lib.hid (o5.out.blocks (fun g e => gr.block g (by injection e with e; injection e with e; subst e; exact o5.out.lt.2) (fun e2 => by injection e with e; injection e with e; subst e; exact NE.out (by simpa using e2))))
              clear ow gr bl lc o1 o5 NE
              have o5 := o5'
              clear o5'
              refine wpAnyL_two (i := 6) (j := 9) rfl rfl (by kernel_rfl) (by kernel_rfl) (by kernel_rfl) hClosed (fun KK hK => ?_) (fun KK hK => ?_)
              · refine step_appE rowHd rfl _ _ rfl w1.heap.size a3 n cap3 (hs.flatMap hdL) rfl o3.out (some ⟨g5, 0, none⟩) 1 1 [.string nRa, .string sv] rfl rfl (rdC_ownF o5.out) (one_hd _ _) (by omega) (by decide) hHeld.size (n + 1) rfl ((hs ++ [(nRa, sv)]).flatMap hdL) (flat_snoc _ (nRa, sv)) ?_
                rintro a6 cap6 wq4 ow gr bl lc
                refine hK.out _ _ ?_ (fun hClosed hHeld => ?_)
                · exact hHeld.trans bl
                clear hK KK
                (first | simp only [List.getElem_toArray, List.getElem_cons_succ, List.getElem_cons_zero, put_at, List.set] | (try simp only [put_at, List.set]))
                have o6 := Lib.hid ow
                have BL := Lib.hid hHeld
                clear ow gr bl lc o3 o5
                refine wpAnyL_two (i := 8) (j := 9) rfl rfl (by kernel_rfl) (by kernel_rfl) (by kernel_rfl) hClosed (fun KK hK => ?_) (fun KK hK => ?_)
                · go_simp
                  refine (FR.out _ _ _ hHeld o6.out).mono ?_
                  rintro e wq5 ⟨rfl, hb8⟩
                  go_wp2_with fail
                  refine hK.out _ _ ?_ (fun hClosed hHeld => ?_)
                  · exact hHeld.trans (hb8.mono hHeld.size)
                  clear hK KK
                  (first | simp only [List.getElem_toArray, List.getElem_cons_succ, List.getElem_cons_zero, put_at, List.set] | (try simp only [put_at, List.set]))
                  have BL := Lib.hid hHeld
                  clear hb8 o6
                  refine wpAnyL_one (i := 9) rfl (by kernel_rfl) (by kernel_rfl) hClosed (fun KK hK => ?_)
                  go_simp
                  refine hK.out _ _ ?_ (fun hClosed hHeld => ?_)
                  · exact hHeld.alloc hHeld.size _
                  clear hK KK
                  (first | simp only [List.getElem_toArray, List.getElem_cons_succ, List.getElem_cons_zero, put_at, List.set] | (try simp only [put_at, List.set]))
                  refine last_forget (fun W => Hid (Below w1.heap.size w1 W) ∧ Hid (Box W wq5.heap.size #[.int .i64 0, .int .i64 0, .int .i64 0] 34)) ⟨Lib.hid hHeld, Lib.hid (Box.new wq5 #[.int .i64 0, .int .i64 0, .int .i64 0] 34)⟩ ?_
                  obtain ⟨r9, hr9⟩ : ∃ g, wq5.heap.size = g := ⟨_, rfl⟩
                  have NB : Hid (w1.heap.size ≤ r9) := Lib.hid (by have := BL.out.size; omega)
                  rw [hr9]
                  clear hr9 hHeld BL
                  rintro wq6 ⟨BL, r9b⟩
                  have hHeld := BL.out
                  refine wpAnyL_last rfl (by kernel_rfl) (by kernel_rfl) (fun KK hK => ?_)
                  have l9 := r9b.out.lt
                  have c0 := r9b.out.cell 0
                  have c1 := r9b.out.cell 1
                  have c2 := r9b.out.cell 2
                  have f0 := r9b.out.free 0
                  have f1 := r9b.out.free 1
                  have f2 := r9b.out.free 2
                  go_simp
                  refine hK.out _ _ ?_
                  (try simp only [put_at, List.set])
                  go_wp2
                  go_meet
                  exact ⟨r9, rfl, Lib.hid (((r9b.out.set 0 (.int .i64 C)).set 1 (.int .i64 R)).set 2 (.int .i64 d1)), Lib.hid (((BL.out.setCell (p := ⟨r9, 0, none⟩) NB.out (.int .i64 C)).setCell (p := ⟨r9, 1, none⟩) NB.out (.int .i64 R)).setCell (p := ⟨r9, 2, none⟩) NB.out (.int .i64 d1))⟩
                · go_simp
                  refine hK.out _ _ ?_ (fun hClosed hHeld => ?_)
                  · exact hHeld.alloc hHeld.size _
                  clear hK KK
                  (first | simp only [List.getElem_toArray, List.getElem_cons_succ, List.getElem_cons_zero, put_at, List.set] | (try simp only [put_at, List.set]))
                  refine last_forget (fun W => Hid (Below w1.heap.size w1 W) ∧ Hid (Own W w1.heap.size 28 2 a6 (n + 1) cap6 ((hs ++ [(nRa, sv)]).flatMap hdL)) ∧ Hid (Box W wq4.heap.size #[.int .i64 0, .int .i64 0, .int .i64 0] 34)) ⟨Lib.hid hHeld, Lib.hid (o6.out.alloc _), Lib.hid (Box.new wq4 #[.int .i64 0, .int .i64 0, .int .i64 0] 34)⟩ ?_
                  obtain ⟨r9, hr9⟩ : ∃ g, wq4.heap.size = g := ⟨_, rfl⟩
                  have NB : Hid (w1.heap.size ≤ r9) := Lib.hid (by have := BL.out.size; omega)
                  rw [hr9]
                  clear hr9 hHeld BL o6
                  rintro wq5 ⟨BL, o6, r9b⟩
                  have hHeld := BL.out
                  refine wpAnyL_one (i := 8) rfl (by kernel_rfl) (by kernel_rfl) hClosed (fun KK hK => ?_)
                  go_simp
                  refine (FR.out _ _ _ hHeld o6.out).mono ?_
                  rintro e wq6 ⟨rfl, hb8⟩
                  go_wp2_with fail
                  refine hK.out _ _ ?_ (fun hClosed hHeld => ?_)
                  · exact hHeld.trans (hb8.mono hHeld.size)
                  clear hK KK
                  (first | simp only [List.getElem_toArray, List.getElem_cons_succ, List.getElem_cons_zero, put_at, List.set] | (try simp only [put_at, List.set]))
                  have BL := Lib.hid hHeld
                  have r9b' := Lib.hid (r9b.out.later hb8)
                  clear r9b
                  have r9b := r9b'
                  clear r9b'
                  clear hb8 o6
                  refine wpAnyL_last rfl (by kernel_rfl) (by kernel_rfl) (fun KK hK => ?_)
                  have l9 := r9b.out.lt
                  have c0 := r9b.out.cell 0
                  have c1 := r9b.out.cell 1
                  have c2 := r9b.out.cell 2
                  have f0 := r9b.out.free 0
                  have f1 := r9b.out.free 1
                  have f2 := r9b.out.free 2
                  go_simp
                  refine hK.out _ _ ?_
                  (try simp only [put_at, List.set])
                  go_wp2
                  go_meet
                  exact ⟨r9, rfl, Lib.hid (((r9b.out.set 0 (.int .i64 C)).set 1 (.int .i64 R)).set 2 (.int .i64 d1)), Lib.hid (((BL.out.setCell (p := ⟨r9, 0, none⟩) NB.out (.int .i64 C)).setCell (p := ⟨r9, 1, none⟩) NB.out (.int .i64 R)).setCell (p := ⟨r9, 2, none⟩) NB.out (.int .i64 d1))⟩
              · go_simp
                refine hK.out _ _ ?_ (fun hClosed hHeld => ?_)
                · exact hHeld.alloc hHeld.size _
                clear hK KK
                (first | simp only [List.getElem_toArray, List.getElem_cons_succ, List.getElem_cons_zero, put_at, List.set] | (try simp only [put_at, List.set]))
                refine last_forget (fun W => Hid (Below w1.heap.size w1 W) ∧ Hid (Own W w1.heap.size 28 2 a3 n cap3 (hs.flatMap hdL)) ∧ Hid (Own W w1.heap.size 28 2 (some ⟨g5, 0, none⟩) 1 1 [.string nRa, .string sv]) ∧ Hid (Box W wq3.heap.size #[.int .i64 0, .int .i64 0, .int .i64 0] 34)) ⟨Lib.hid hHeld, Lib.hid (o3.out.alloc _), Lib.hid (o5.out.alloc _), Lib.hid (Box.new wq3 #[.int .i64 0, .int .i64 0, .int .i64 0] 34)⟩ ?_
                obtain ⟨r9, hr9⟩ : ∃ g, wq3.heap.size = g := ⟨_, rfl⟩
                have NB : Hid (w1.heap.size ≤ r9) := Lib.hid (by have := BL.out.size; omega)
                have NA : Hid (some r9 ≠ a3.map (·.block)) := Lib.hid (fun e => by have := (own_ltF o3.out (own_mapF o3.out e.symm)).2; omega)
                rw [hr9]
                clear hr9 hHeld BL o3 o5
                rintro wq4 ⟨BL, o3, o5, r9b⟩
                have hHeld := BL.out
                refine wpAnyL_one (i := 6) rfl (by kernel_rfl) (by kernel_rfl) hClosed (fun KK hK => ?_)
                refine step_appE rowHd rfl _ _ rfl w1.heap.size a3 n cap3 (hs.flatMap hdL) rfl o3.out (some ⟨g5, 0, none⟩) 1 1 [.string nRa, .string sv] rfl rfl (rdC_ownF o5.out) (one_hd _ _) (by omega) (by decide) hHeld.size (n + 1) rfl ((hs ++ [(nRa, sv)]).flatMap hdL) (flat_snoc _ (nRa, sv)) ?_
                rintro a6 cap6 wq5 ow gr bl lc
                refine hK.out _ _ ?_ (fun hClosed hHeld => ?_)
                · exact hHeld.trans bl
                clear hK KK
                (first | simp only [List.getElem_toArray, List.getElem_cons_succ, List.getElem_cons_zero, put_at, List.set] | (try simp only [put_at, List.set]))
                have o6 := Lib.hid ow
                have BL := Lib.hid hHeld
                have r9b' : Hid (Box wq5 r9 #[.int .i64 0, .int .i64 0, .int .i64 0] 34) := Lib.hid ((gr.block r9 r9b.out.lt NA.out).trans r9b.out)
                clear ow gr bl lc o3 o5 r9b NA
                have r9b := r9b'
                clear r9b'
                refine wpAnyL_one (i := 8) rfl (by kernel_rfl) (by kernel_rfl) hClosed (fun KK hK => ?_)
                go_simp
                refine (FR.out _ _ _ hHeld o6.out).mono ?_
                rintro e wq6 ⟨rfl, hb8⟩
                go_wp2_with fail
                refine hK.out _ _ ?_ (fun hClosed hHeld => ?_)
                · exact hHeld.trans (hb8.mono hHeld.size)
                clear hK KK
                (first | simp only [List.getElem_toArray, List.getElem_cons_succ, List.getElem_cons_zero, put_at, List.set] | (try simp only [put_at, List.set]))
                have BL := Lib.hid hHeld
                have r9b' := Lib.hid (r9b.out.later hb8)
                clear r9b
                have r9b := r9b'
                clear r9b'
                clear hb8 o6
                refine wpAnyL_last rfl (by kernel_rfl) (by kernel_rfl) (fun KK hK => ?_)
                have l9 := r9b.out.lt
                have c0 := r9b.out.cell 0
                have c1 := r9b.out.cell 1
                have c2 := r9b.out.cell 2
                have f0 := r9b.out.free 0
                have f1 := r9b.out.free 1
                have f2 := r9b.out.free 2
                go_simp
                refine hK.out _ _ ?_
                (try simp only [put_at, List.set])
                go_wp2
                go_meet
                exact ⟨r9, rfl, Lib.hid (((r9b.out.set 0 (.int .i64 C)).set 1 (.int .i64 R)).set 2 (.int .i64 d1)), Lib.hid (((BL.out.setCell (p := ⟨r9, 0, none⟩) NB.out (.int .i64 C)).setCell (p := ⟨r9, 1, none⟩) NB.out (.int .i64 R)).setCell (p := ⟨r9, 2, none⟩) NB.out (.int .i64 d1))⟩
            · go_simp
              refine hK.out _ _ ?_ (fun hClosed hHeld => ?_)
              · exact hHeld.alloc hHeld.size _
              clear hK KK
              (first | simp only [List.getElem_toArray, List.getElem_cons_succ, List.getElem_cons_zero, put_at, List.set] | (try simp only [put_at, List.set]))
              refine last_forget (fun W => Hid (Below w1.heap.size w1 W) ∧ Hid (Own W w1.heap.size 28 2 (some ⟨g1, 0, none⟩) 0 0 []) ∧ Hid (Own W w1.heap.size 28 2 (some ⟨g5, 0, none⟩) 1 1 [.string nRa, .string sv]) ∧ Hid (Box W wq2.heap.size #[.int .i64 0, .int .i64 0, .int .i64 0] 34)) ⟨Lib.hid hHeld, Lib.hid (o1.out.alloc _), Lib.hid (o5.out.alloc _), Lib.hid (Box.new wq2 #[.int .i64 0, .int .i64 0, .int .i64 0] 34)⟩ ?_
              obtain ⟨r9, hr9⟩ : ∃ g, wq2.heap.size = g := ⟨_, rfl⟩
              have NR : Hid (r9 ≠ g1) := Lib.hid (by have := o1.out.lt.2; omega)
              have NB : Hid (w1.heap.size ≤ r9) := Lib.hid (by have := BL.out.size; omega)
              rw [hr9]
              clear hr9 hHeld BL o1 o5
              rintro wq3 ⟨BL, o1, o5, r9b⟩
              have hHeld := BL.out
              refine wpAnyL_one (i := 3) rfl (by kernel_rfl) (by kernel_rfl) hClosed (fun KK hK => ?_)
              refine step_appE rowHd rfl _ _ rfl w1.heap.size (some ⟨g1, 0, none⟩) 0 0 [] rfl o1.out sa n c (hs.flatMap hdL) rfl LEN.out (RDC.out _ hHeld) ONE.out (by omega) (by decide) hHeld.size n (Nat.zero_add n) (hs.flatMap hdL) (List.nil_append _) ?_
              rintro a3 cap3 wq4 ow gr bl lc
              refine hK.out _ _ ?_ (fun hClosed hHeld => ?_)
              · exact hHeld.trans bl
              clear hK KK
              (first | simp only [List.getElem_toArray, List.getElem_cons_succ, List.getElem_cons_zero, put_at, List.set] | (try simp only [put_at, List.set]))
              have o3 := Lib.hid ow
              have BL := Lib.hid hHeld
              have o5' := Lib.hid (o5.out.blocks (fun g e => gr.block g (by injection e with e; injection e with e; subst e; exact o5.out.lt.2) (fun e2 => by injection e with e; injection e with e; subst e; exact NE.out (by simpa using e2))))
              have NA : Hid (some r9 ≠ a3.map (·.block)) := Lib.hid (fun e => by
                rcases lc r9 (own_mapF ow e.symm) with h | h
                · exact NR.out (by simpa using h.symm)
                · have := r9b.out.lt
                  omega)
              have r9b' : Hid (Box wq4 r9 #[.int .i64 0, .int .i64 0, .int .i64 0] 34) := Lib.hid ((gr.block r9 r9b.out.lt (fun e => NR.out (by simpa using e))).trans r9b.out)
              clear ow gr bl lc o1 o5 NE r9b NR
              have o5 := o5'
              clear o5'
              have r9b := r9b'
              clear r9b'
              refine wpAnyL_one (i := 6) rfl (by kernel_rfl) (by kernel_rfl) hClosed (fun KK hK => ?_)
              refine step_appE rowHd rfl _ _ rfl w1.heap.size a3 n cap3 (hs.flatMap hdL) rfl o3.out (some ⟨g5, 0, none⟩) 1 1 [.string nRa, .string sv] rfl rfl (rdC_ownF o5.out) (one_hd _ _) (by omega) (by decide) hHeld.size (n + 1) rfl ((hs ++ [(nRa, sv)]).flatMap hdL) (flat_snoc _ (nRa, sv)) ?_
              rintro a6 cap6 wq5 ow gr bl lc
              refine hK.out _ _ ?_ (fun hClosed hHeld => ?_)
              · exact hHeld.trans bl
              clear hK KK
              (first | simp only [List.getElem_toArray, List.getElem_cons_succ, List.getElem_cons_zero, put_at, List.set] | (try simp only [put_at, List.set]))
              have o6 := Lib.hid ow
              have BL := Lib.hid hHeld
              have r9b' : Hid (Box wq5 r9 #[.int .i64 0, .int .i64 0, .int .i64 0] 34) := Lib.hid ((gr.block r9 r9b.out.lt NA.out).trans r9b.out)
              clear ow gr bl lc o3 o5 r9b NA
              have r9b := r9b'
              clear r9b'
              refine wpAnyL_one (i := 8) rfl (by kernel_rfl) (by kernel_rfl) hClosed (fun KK hK => ?_)
              go_simp
              refine (FR.out _ _ _ hHeld o6.out).mono ?_
              rintro e wq6 ⟨rfl, hb8⟩
              go_wp2_with fail
              refine hK.out _ _ ?_ (fun hClosed hHeld => ?_)
              · exact hHeld.trans (hb8.mono hHeld.size)
              clear hK KK
              (first | simp only [List.getElem_toArray, List.getElem_cons_succ, List.getElem_cons_zero, put_at, List.set] | (try simp only [put_at, List.set]))
              have BL := Lib.hid hHeld
              have r9b' := Lib.hid (r9b.out.later hb8)
              clear r9b
              have r9b := r9b'
              clear r9b'
              clear hb8 o6
              refine wpAnyL_last rfl (by kernel_rfl) (by kernel_rfl) (fun KK hK => ?_)
              have l9 := r9b.out.lt
              have c0 := r9b.out.cell 0
              have c1 := r9b.out.cell 1
              have c2 := r9b.out.cell 2
              have f0 := r9b.out.free 0
              have f1 := r9b.out.free 1
              have f2 := r9b.out.free 2
              go_simp
              refine hK.out _ _ ?_
              (try simp only [put_at, List.set])
              go_wp2
              go_meet
              exact ⟨r9, rfl, Lib.hid (((r9b.out.set 0 (.int .i64 C)).set 1 (.int .i64 R)).set 2 (.int .i64 d1)), Lib.hid (((BL.out.setCell (p := ⟨r9, 0, none⟩) NB.out (.int .i64 C)).setCell (p := ⟨r9, 1, none⟩) NB.out (.int .i64 R)).setCell (p := ⟨r9, 2, none⟩) NB.out (.int .i64 d1))⟩
          · go_simp
            refine hK.out _ _ ?_ (fun hClosed hHeld => ?_)
            · exact hHeld.alloc hHeld.size _
            clear hK KK
            (first | simp only [List.getElem_toArray, List.getElem_cons_succ, List.getElem_cons_zero, put_at, List.set] | (try simp only [put_at, List.set]))
            refine last_forget (fun W => Hid (Below w1.heap.size w1 W) ∧ Hid (Own W w1.heap.size 28 2 (some ⟨g1, 0, none⟩) 0 0 []) ∧ Hid (Box W wq1.heap.size #[.int .i64 0, .int .i64 0, .int .i64 0] 34)) ⟨Lib.hid hHeld, Lib.hid (o1.out.alloc _), Lib.hid (Box.new wq1 #[.int .i64 0, .int .i64 0, .int .i64 0] 34)⟩ ?_
            obtain ⟨r9, hr9⟩ : ∃ g, wq1.heap.size = g := ⟨_, rfl⟩
            have NR : Hid (r9 ≠ g1) := Lib.hid (by have := o1.out.lt.2; omega)
            have NB : Hid (w1.heap.size ≤ r9) := Lib.hid (by have := BL.out.size; omega)
            rw [hr9]
            clear hr9 hHeld BL o1
            rintro wq2 ⟨BL, o1, r9b⟩
            have hHeld := BL.out
            refine wpAnyL_two (i := 3) (j := 5) rfl rfl (by kernel_rfl) (by kernel_rfl) (by kernel_rfl) hClosed (fun KK hK => ?_) (fun KK hK => ?_)
            · refine step_appE rowHd rfl _ _ rfl w1.heap.size (some ⟨g1, 0, none⟩) 0 0 [] rfl o1.out sa n c (hs.flatMap hdL) rfl LEN.out (RDC.out _ hHeld) ONE.out (by omega) (by decide) hHeld.size n (Nat.zero_add n) (hs.flatMap hdL) (List.nil_append _) ?_
              rintro a3 cap3 wq3 ow gr bl lc
              refine hK.out _ _ ?_ (fun hClosed hHeld => ?_)
              · exact hHeld.trans bl
              clear hK KK
              (first | simp only [List.getElem_toArray, List.getElem_cons_succ, List.getElem_cons_zero, put_at, List.set] | (try simp only [put_at, List.set]))
              have o3 := Lib.hid ow
              have BL := Lib.hid hHeld
              have NA : Hid (some r9 ≠ a3.map (·.block)) := Lib.hid (fun e => by
                rcases lc r9 (own_mapF ow e.symm) with h | h
                · exact NR.out (by simpa using h.symm)
                · have := r9b.out.lt
                  omega)
              have r9b' : Hid (Box wq3 r9 #[.int .i64 0, .int .i64 0, .int .i64 0] 34) := Lib.hid ((gr.block r9 r9b.out.lt (fun e => NR.out (by simpa using e))).trans r9b.out)
              clear ow gr bl lc o1 r9b NR
              have r9b := r9b'
              clear r9b'
              refine wpAnyL_one (i := 5) rfl (by kernel_rfl) (by kernel_rfl) hClosed (fun KK hK => ?_)
              go_simp
              refine hK.out _ _ ?_ (fun hClosed hHeld => ?_)
              · exact hHeld.alloc hHeld.size _
              clear hK KK
              (first | simp only [List.getElem_toArray, List.getElem_cons_succ, List.getElem_cons_zero, put_at, List.set] | (try simp only [put_at, List.set]))
              refine last_forget (fun W => Hid (Below w1.heap.size w1 W) ∧ Hid (Own W w1.heap.size 28 2 a3 n cap3 (hs.flatMap hdL)) ∧ Hid (Own W w1.heap.size 28 2 (some ⟨wq3.heap.size, 0, none⟩) 1 1 [.string nRa, .string sv]) ∧ Hid (Box W r9 #[.int .i64 0, .int .i64 0, .int .i64 0] 34)) ⟨Lib.hid hHeld, Lib.hid (o3.out.alloc _), Lib.hid (Own.lit (w := wq3) (B := w1.heap.size) (n := 1) (size := 2) (cs := #[.string nRa, .string sv]) (E := 28) BL.out.size (by decide) rfl), Lib.hid (r9b.out.alloc _)⟩ ?_
              obtain ⟨g5, hg5⟩ : ∃ g, wq3.heap.size = g := ⟨_, rfl⟩
              rw [hg5]
              clear hg5 hHeld BL o3 r9b
              rintro wq4 ⟨BL, o3, o5, r9b⟩
              have hHeld := BL.out
              refine wpAnyL_one (i := 6) rfl (by kernel_rfl) (by kernel_rfl) hClosed (fun KK hK => ?_)
              refine step_appE rowHd rfl _ _ rfl w1.heap.size a3 n cap3 (hs.flatMap hdL) rfl o3.out (some ⟨g5, 0, none⟩) 1 1 [.string nRa, .string sv] rfl rfl (rdC_ownF o5.out) (one_hd _ _) (by omega) (by decide) hHeld.size (n + 1) rfl ((hs ++ [(nRa, sv)]).flatMap hdL) (flat_snoc _ (nRa, sv)) ?_
              rintro a6 cap6 wq5 ow gr bl lc
              refine hK.out _ _ ?_ (fun hClosed hHeld => ?_)
              · exact hHeld.trans bl
              clear hK KK
              (first | simp only [List.getElem_toArray, List.getElem_cons_succ, List.getElem_cons_zero, put_at, List.set] | (try simp only [put_at, List.set]))
              have o6 := Lib.hid ow
              have BL := Lib.hid hHeld
              have r9b' : Hid (Box wq5 r9 #[.int .i64 0, .int .i64 0, .int .i64 0] 34) := Lib.hid ((gr.block r9 r9b.out.lt NA.out).trans r9b.out)
              clear ow gr bl lc o3 o5 r9b NA
              have r9b := r9b'
              clear r9b'
              refine wpAnyL_one (i := 8) rfl (by kernel_rfl) (by kernel_rfl) hClosed (fun KK hK => ?_)
              go_simp
              refine (FR.out _ _ _ hHeld o6.out).mono ?_
              rintro e wq6 ⟨rfl, hb8⟩
              go_wp2_with fail
              refine hK.out _ _ ?_ (fun hClosed hHeld => ?_)
              · exact hHeld.trans (hb8.mono hHeld.size)
              clear hK KK
              (first | simp only [List.getElem_toArray, List.getElem_cons_succ, List.getElem_cons_zero, put_at, List.set] | (try simp only [put_at, List.set]))
              have BL := Lib.hid hHeld
              have r9b' := Lib.hid (r9b.out.later hb8)
              clear r9b
              have r9b := r9b'
              clear r9b'
              clear hb8 o6
              refine wpAnyL_last rfl (by kernel_rfl) (by kernel_rfl) (fun KK hK => ?_)
              have l9 := r9b.out.lt
              have c0 := r9b.out.cell 0
              have c1 := r9b.out.cell 1
              have c2 := r9b.out.cell 2
              have f0 := r9b.out.free 0
              have f1 := r9b.out.free 1
              have f2 := r9b.out.free 2
              go_simp
              refine hK.out _ _ ?_
              (try simp only [put_at, List.set])
              go_wp2
              go_meet
              exact ⟨r9, rfl, Lib.hid (((r9b.out.set 0 (.int .i64 C)).set 1 (.int .i64 R)).set 2 (.int .i64 d1)), Lib.hid (((BL.out.setCell (p := ⟨r9, 0, none⟩) NB.out (.int .i64 C)).setCell (p := ⟨r9, 1, none⟩) NB.out (.int .i64 R)).setCell (p := ⟨r9, 2, none⟩) NB.out (.int .i64 d1))⟩
            · go_simp
              refine hK.out _ _ ?_ (fun hClosed hHeld => ?_)
              · exact hHeld.alloc hHeld.size _
              clear hK KK
              (first | simp only [List.getElem_toArray, List.getElem_cons_succ, List.getElem_cons_zero, put_at, List.set] | (try simp only [put_at, List.set]))
              refine last_forget (fun W => Hid (Below w1.heap.size w1 W) ∧ Hid (Own W w1.heap.size 28 2 (some ⟨g1, 0, none⟩) 0 0 []) ∧ Hid (Own W w1.heap.size 28 2 (some ⟨wq2.heap.size, 0, none⟩) 1 1 [.string nRa, .string sv]) ∧ Hid (Box W r9 #[.int .i64 0, .int .i64 0, .int .i64 0] 34)) ⟨Lib.hid hHeld, Lib.hid (o1.out.alloc _), Lib.hid (Own.lit (w := wq2) (B := w1.heap.size) (n := 1) (size := 2) (cs := #[.string nRa, .string sv]) (E := 28) BL.out.size (by decide) rfl), Lib.hid (r9b.out.alloc _)⟩ ?_
              obtain ⟨g5, hg5⟩ : ∃ g, wq2.heap.size = g := ⟨_, rfl⟩
              have NE : Hid (g5 ≠ g1) := Lib.hid (by have := o1.out.lt.2; omega)
              rw [hg5]
              clear hg5 hHeld BL o1 r9b
              rintro wq3 ⟨BL, o1, o5, r9b⟩
              have hHeld := BL.out
              refine wpAnyL_one (i := 3) rfl (by kernel_rfl) (by kernel_rfl) hClosed (fun KK hK => ?_)
              refine step_appE rowHd rfl _ _ rfl w1.heap.size (some ⟨g1, 0, none⟩) 0 0 [] rfl o1.out sa n c (hs.flatMap hdL) rfl LEN.out (RDC.out _ hHeld) ONE.out (by omega) (by decide) hHeld.size n (Nat.zero_add n) (hs.flatMap hdL) (List.nil_append _) ?_
              rintro a3 cap3 wq4 ow gr bl lc
              refine hK.out _ _ ?_ (fun hClosed hHeld => ?_)
              · exact hHeld.trans bl
              clear hK KK
              (first | simp only [List.getElem_toArray, List.getElem_cons_succ, List.getElem_cons_zero, put_at, List.set] | (try simp only [put_at, List.set]))
              have o3 := Lib.hid ow
              have BL := Lib.hid hHeld
              have o5' := Lib.hid (o5.out.blocks (fun g e => gr.block g (by injection e with e; injection e with e; subst e; exact o5.out.lt.2) (fun e2 => by injection e with e; injection e with e; subst e; exact NE.out (by simpa using e2))))
              have NA : Hid (some r9 ≠ a3.map (·.block)) := Lib.hid (fun e => by
                rcases lc r9 (own_mapF ow e.symm) with h | h
                · exact NR.out (by simpa using h.symm)
                · have := r9b.out.lt
                  omega)
              have r9b' : Hid (Box wq4 r9 #[.int .i64 0, .int .i64 0, .int .i64 0] 34) := Lib.hid ((gr.block r9 r9b.out.lt (fun e => NR.out (by simpa using e))).trans r9b.out)
              clear ow gr bl lc o1 o5 NE r9b NR
              have o5 := o5'
              clear o5'
              have r9b := r9b'
              clear r9b'
              refine wpAnyL_one (i := 6) rfl (by kernel_rfl) (by kernel_rfl) hClosed (fun KK hK => ?_)
              refine step_appE rowHd rfl _ _ rfl w1.heap.size a3 n cap3 (hs.flatMap hdL) rfl o3.out (some ⟨g5, 0, none⟩) 1 1 [.string nRa, .string sv] rfl rfl (rdC_ownF o5.out) (one_hd _ _) (by omega) (by decide) hHeld.size (n + 1) rfl ((hs ++ [(nRa, sv)]).flatMap hdL) (flat_snoc _ (nRa, sv)) ?_
              rintro a6 cap6 wq5 ow gr bl lc
              refine hK.out _ _ ?_ (fun hClosed hHeld => ?_)
              · exact hHeld.trans bl
              clear hK KK
              (first | simp only [List.getElem_toArray, List.getElem_cons_succ, List.getElem_cons_zero, put_at, List.set] | (try simp only [put_at, List.set]))
              have o6 := Lib.hid ow
              have BL := Lib.hid hHeld
              have r9b' : Hid (Box wq5 r9 #[.int .i64 0, .int .i64 0, .int .i64 0] 34) := Lib.hid ((gr.block r9 r9b.out.lt NA.out).trans r9b.out)
              clear ow gr bl lc o3 o5 r9b NA
              have r9b := r9b'
              clear r9b'
              refine wpAnyL_one (i := 8) rfl (by kernel_rfl) (by kernel_rfl) hClosed (fun KK hK => ?_)
              go_simp
              refine (FR.out _ _ _ hHeld o6.out).mono ?_
              rintro e wq6 ⟨rfl, hb8⟩
              go_wp2_with fail
              refine hK.out _ _ ?_ (fun hClosed hHeld => ?_)
              · exact hHeld.trans (hb8.mono hHeld.size)
              clear hK KK
              (first | simp only [List.getElem_toArray, List.getElem_cons_succ, List.getElem_cons_zero, put_at, List.set] | (try simp only [put_at, List.set]))
              have BL := Lib.hid hHeld
              have r9b' := Lib.hid (r9b.out.later hb8)
              clear r9b
              have r9b := r9b'
              clear r9b'
              clear hb8 o6
              refine wpAnyL_last rfl (by kernel_rfl) (by kernel_rfl) (fun KK hK => ?_)
              have l9 := r9b.out.lt
              have c0 := r9b.out.cell 0
              have c1 := r9b.out.cell 1
              have c2 := r9b.out.cell 2
              have f0 := r9b.out.free 0
              have f1 := r9b.out.free 1
              have f2 := r9b.out.free 2
              go_simp
              refine hK.out _ _ ?_
              (try simp only [put_at, List.set])
              go_wp2
              go_meet
              exact ⟨r9, rfl, Lib.hid (((r9b.out.set 0 (.int .i64 C)).set 1 (.int .i64 R)).set 2 (.int .i64 d1)), Lib.hid (((BL.out.setCell (p := ⟨r9, 0, none⟩) NB.out (.int .i64 C)).setCell (p := ⟨r9, 1, none⟩) NB.out (.int .i64 R)).setCell (p := ⟨r9, 2, none⟩) NB.out (.int .i64 d1))⟩
        · go_simp
          refine hK.out _ _ ?_ (fun hClosed hHeld => ?_)
          · exact hHeld.alloc hHeld.size _
          clear hK KK
          (first | simp only [List.getElem_toArray, List.getElem_cons_succ, List.getElem_cons_zero, put_at, List.set] | (try simp only [put_at, List.set]))
          refine last_forget (fun W => Hid (Below w1.heap.size w1 W) ∧ Hid (Own W w1.heap.size 28 2 (some ⟨wq0.heap.size, 0, none⟩) 1 1 [.string nRa, .string sv])) ⟨Lib.hid hHeld, Lib.hid (Own.lit (w := wq0) (B := w1.heap.size) (n := 1) (size := 2) (cs := #[.string nRa, .string sv]) (E := 28) BL.out.size (by decide) rfl)⟩ ?_
          obtain ⟨g5, hg5⟩ : ∃ g, wq0.heap.size = g := ⟨_, rfl⟩
          rw [hg5]
          clear hg5 hHeld BL
          rintro wq1 ⟨BL, o5⟩
          have hHeld := BL.out
          refine wpAnyL_two (i := 1) (j := 9) rfl rfl (by kernel_rfl) (by kernel_rfl) (by kernel_rfl) hClosed (fun KK hK => ?_) (fun KK hK => ?_)
          · go_simp
            refine hK.out _ _ ?_ (fun hClosed hHeld => ?_)
            · exact hHeld.alloc hHeld.size _
            clear hK KK
            (first | simp only [List.getElem_toArray, List.getElem_cons_succ, List.getElem_cons_zero, put_at, List.set] | (try simp only [put_at, List.set]))
            refine last_forget (fun W => Hid (Below w1.heap.size w1 W) ∧ Hid (Own W w1.heap.size 28 2 (some ⟨wq1.heap.size, 0, none⟩) 0 0 []) ∧ Hid (Own W w1.heap.size 28 2 (some ⟨g5, 0, none⟩) 1 1 [.string nRa, .string sv])) ⟨Lib.hid hHeld, Lib.hid (Own.lit (w := wq1) (B := w1.heap.size) (n := 0) (size := 2) (cs := #[]) (E := 28) BL.out.size (by decide) rfl), Lib.hid (o5.out.alloc _)⟩ ?_
            obtain ⟨g1, hg1⟩ : ∃ g, wq1.heap.size = g := ⟨_, rfl⟩
            have NE : Hid (g5 ≠ g1) := Lib.hid (by have := o5.out.lt.2; omega)
            rw [hg1]
            clear hg1 hHeld BL o5
            rintro wq2 ⟨BL, o1, o5⟩
            have hHeld := BL.out
            refine wpAnyL_two (i := 3) (j := 9) rfl rfl (by kernel_rfl) (by kernel_rfl) (by kernel_rfl) hClosed (fun KK hK => ?_) (fun KK hK => ?_)
            · refine step_appE rowHd rfl _ _ rfl w1.heap.size (some ⟨g1, 0, none⟩) 0 0 [] rfl o1.out sa n c (hs.flatMap hdL) rfl LEN.out (RDC.out _ hHeld) ONE.out (by omega) (by decide) hHeld.size n (Nat.zero_add n) (hs.flatMap hdL) (List.nil_append _) ?_
              rintro a3 cap3 wq3 ow gr bl lc
              refine hK.out _ _ ?_ (fun hClosed hHeld => ?_)
              · exact hHeld.trans bl
              clear hK KK
              (first | simp only [List.getElem_toArray, List.getElem_cons_succ, List.getElem_cons_zero, put_at, List.set] | (try simp only [put_at, List.set]))
              have o3 := Lib.hid ow
              have BL := Lib.hid hHeld
              have o5' := Lib.hid (o5.out.blocks (fun g e => gr.block g (by injection e with e; injection e with e; subst e; exact o5.out.lt.2) (fun e2 => by injection e with e; injection e with e; subst e; exact NE.out (by simpa using e2))))
              clear ow gr bl lc o1 o5 NE
              have o5 := o5'
              clear o5'
              refine wpAnyL_two (i := 6) (j := 9) rfl rfl (by kernel_rfl) (by kernel_rfl) (by kernel_rfl) hClosed (fun KK hK => ?_) (fun KK hK => ?_)
              · refine step_appE rowHd rfl _ _ rfl w1.heap.size a3 n cap3 (hs.flatMap hdL) rfl o3.out (some ⟨g5, 0, none⟩) 1 1 [.string nRa, .string sv] rfl rfl (rdC_ownF o5.out) (one_hd _ _) (by omega) (by decide) hHeld.size (n + 1) rfl ((hs ++ [(nRa, sv)]).flatMap hdL) (flat_snoc _ (nRa, sv)) ?_
                rintro a6 cap6 wq4 ow gr bl lc
                refine hK.out _ _ ?_ (fun hClosed hHeld => ?_)
                · exact hHeld.trans bl
                clear hK KK
                (first | simp only [List.getElem_toArray, List.getElem_cons_succ, List.getElem_cons_zero, put_at, List.set] | (try simp only [put_at, List.set]))
                have o6 := Lib.hid ow
                have BL := Lib.hid hHeld
                clear ow gr bl lc o3 o5
                refine wpAnyL_two (i := 8) (j := 9) rfl rfl (by kernel_rfl) (by kernel_rfl) (by kernel_rfl) hClosed (fun KK hK => ?_) (fun KK hK => ?_)
                · go_simp
                  refine (FR.out _ _ _ hHeld o6.out).mono ?_
                  rintro e wq5 ⟨rfl, hb8⟩
                  go_wp2_with fail
                  refine hK.out _ _ ?_ (fun hClosed hHeld => ?_)
                  · exact hHeld.trans (hb8.mono hHeld.size)
                  clear hK KK
                  (first | simp only [List.getElem_toArray, List.getElem_cons_succ, List.getElem_cons_zero, put_at, List.set] | (try simp only [put_at, List.set]))
                  have BL := Lib.hid hHeld
                  clear hb8 o6
                  refine wpAnyL_one (i := 9) rfl (by kernel_rfl) (by kernel_rfl) hClosed (fun KK hK => ?_)
                  go_simp
                  refine hK.out _ _ ?_ (fun hClosed hHeld => ?_)
                  · exact hHeld.alloc hHeld.size _
                  clear hK KK
                  (first | simp only [List.getElem_toArray, List.getElem_cons_succ, List.getElem_cons_zero, put_at, List.set] | (try simp only [put_at, List.set]))
                  refine last_forget (fun W => Hid (Below w1.heap.size w1 W) ∧ Hid (Box W wq5.heap.size #[.int .i64 0, .int .i64 0, .int .i64 0] 34)) ⟨Lib.hid hHeld, Lib.hid (Box.new wq5 #[.int .i64 0, .int .i64 0, .int .i64 0] 34)⟩ ?_
                  obtain ⟨r9, hr9⟩ : ∃ g, wq5.heap.size = g := ⟨_, rfl⟩
                  have NB : Hid (w1.heap.size ≤ r9) := Lib.hid (by have := BL.out.size; omega)
                  rw [hr9]
                  clear hr9 hHeld BL
                  rintro wq6 ⟨BL, r9b⟩
                  have hHeld := BL.out
                  refine wpAnyL_last rfl (by kernel_rfl) (by kernel_rfl) (fun KK hK => ?_)
                  have l9 := r9b.out.lt
                  have c0 := r9b.out.cell 0
                  have c1 := r9b.out.cell 1
                  have c2 := r9b.out.cell 2
                  have f0 := r9b.out.free 0
                  have f1 := r9b.out.free 1
                  have f2 := r9b.out.free 2
                  go_simp
                  refine hK.out _ _ ?_
                  (try simp only [put_at, List.set])
                  go_wp2
                  go_meet
                  exact ⟨r9, rfl, Lib.hid (((r9b.out.set 0 (.int .i64 C)).set 1 (.int .i64 R)).set 2 (.int .i64 d1)), Lib.hid (((BL.out.setCell (p := ⟨r9, 0, none⟩) NB.out (.int .i64 C)).setCell (p := ⟨r9, 1, none⟩) NB.out (.int .i64 R)).setCell (p := ⟨r9, 2, none⟩) NB.out (.int .i64 d1))⟩
                · go_simp
                  refine hK.out _ _ ?_ (fun hClosed hHeld => ?_)
                  · exact hHeld.alloc hHeld.size _
                  clear hK KK
                  (first | simp only [List.getElem_toArray, List.getElem_cons_succ, List.getElem_cons_zero, put_at, List.set] | (try simp only [put_at, List.set]))
                  refine last_forget (fun W => Hid (Below w1.heap.size w1 W) ∧ Hid (Own W w1.heap.size 28 2 a6 (n + 1) cap6 ((hs ++ [(nRa, sv)]).flatMap hdL)) ∧ Hid (Box W wq4.heap.size #[.int .i64 0, .int .i64 0, .int .i64 0] 34)) ⟨Lib.hid hHeld, Lib.hid (o6.out.alloc _), Lib.hid (Box.new wq4 #[.int .i64 0, .int .i64 0, .int .i64 0] 34)⟩ ?_
                  obtain ⟨r9, hr9⟩ : ∃ g, wq4.heap.size = g := ⟨_, rfl⟩
                  have NB : Hid (w1.heap.size ≤ r9) := Lib.hid (by have := BL.out.size; omega)
                  rw [hr9]
                  clear hr9 hHeld BL o6
                  rintro wq5 ⟨BL, o6, r9b⟩
                  have hHeld := BL.out
                  refine wpAnyL_one (i := 8) rfl (by kernel_rfl) (by kernel_rfl) hClosed (fun KK hK => ?_)
                  go_simp
                  refine (FR.out _ _ _ hHeld o6.out).mono ?_
                  rintro e wq6 ⟨rfl, hb8⟩
                  go_wp2_with fail
                  refine hK.out _ _ ?_ (fun hClosed hHeld => ?_)
                  · exact hHeld.trans (hb8.mono hHeld.size)
                  clear hK KK
                  (first | simp only [List.getElem_toArray, List.getElem_cons_succ, List.getElem_cons_zero, put_at, List.set] | (try simp only [put_at, List.set]))
                  have BL := Lib.hid hHeld
                  have r9b' := Lib.hid (r9b.out.later hb8)
                  clear r9b
                  have r9b := r9b'
                  clear r9b'
                  clear hb8 o6
                  refine wpAnyL_last rfl (by kernel_rfl) (by kernel_rfl) (fun KK hK => ?_)
                  have l9 := r9b.out.lt
                  have c0 := r9b.out.cell 0
                  have c1 := r9b.out.cell 1
                  have c2 := r9b.out.cell 2
                  have f0 := r9b.out.free 0
                  have f1 := r9b.out.free 1
                  have f2 := r9b.out.free 2
                  go_simp
                  refine hK.out _ _ ?_
                  (try simp only [put_at, List.set])
                  go_wp2
                  go_meet
                  exact ⟨r9, rfl, Lib.hid (((r9b.out.set 0 (.int .i64 C)).set 1 (.int .i64 R)).set 2 (.int .i64 d1)), Lib.hid (((BL.out.setCell (p := ⟨r9, 0, none⟩) NB.out (.int .i64 C)).setCell (p := ⟨r9, 1, none⟩) NB.out (.int .i64 R)).setCell (p := ⟨r9, 2, none⟩) NB.out (.int .i64 d1))⟩
              · go_simp
                refine hK.out _ _ ?_ (fun hClosed hHeld => ?_)
                · exact hHeld.alloc hHeld.size _
                clear hK KK
                (first | simp only [List.getElem_toArray, List.getElem_cons_succ, List.getElem_cons_zero, put_at, List.set] | (try simp only [put_at, List.set]))
                refine last_forget (fun W => Hid (Below w1.heap.size w1 W) ∧ Hid (Own W w1.heap.size 28 2 a3 n cap3 (hs.flatMap hdL)) ∧ Hid (Own W w1.heap.size 28 2 (some ⟨g5, 0, none⟩) 1 1 [.string nRa, .string sv]) ∧ Hid (Box W wq3.heap.size #[.int .i64 0, .int .i64 0, .int .i64 0] 34)) ⟨Lib.hid hHeld, Lib.hid (o3.out.alloc _), Lib.hid (o5.out.alloc _), Lib.hid (Box.new wq3 #[.int .i64 0, .int .i64 0, .int .i64 0] 34)⟩ ?_
                obtain ⟨r9, hr9⟩ : ∃ g, wq3.heap.size = g := ⟨_, rfl⟩
                have NB : Hid (w1.heap.size ≤ r9) := Lib.hid (by have := BL.out.size; omega)
                have NA : Hid (some r9 ≠ a3.map (·.block)) := Lib.hid (fun e => by have := (own_ltF o3.out (own_mapF o3.out e.symm)).2; omega)
                rw [hr9]
                clear hr9 hHeld BL o3 o5
                rintro wq4 ⟨BL, o3, o5, r9b⟩
                have hHeld := BL.out
                refine wpAnyL_one (i := 6) rfl (by kernel_rfl) (by kernel_rfl) hClosed (fun KK hK => ?_)
                refine step_appE rowHd rfl _ _ rfl w1.heap.size a3 n cap3 (hs.flatMap hdL) rfl o3.out (some ⟨g5, 0, none⟩) 1 1 [.string nRa, .string sv] rfl rfl (rdC_ownF o5.out) (one_hd _ _) (by omega) (by decide) hHeld.size (n + 1) rfl ((hs ++ [(nRa, sv)]).flatMap hdL) (flat_snoc _ (nRa, sv)) ?_
                rintro a6 cap6 wq5 ow gr bl lc
                refine hK.out _ _ ?_ (fun hClosed hHeld => ?_)
                · exact hHeld.trans bl
                clear hK KK
                (first | simp only [List.getElem_toArray, List.getElem_cons_succ, List.getElem_cons_zero, put_at, List.set] | (try simp only [put_at, List.set]))
                have o6 := Lib.hid ow
                have BL := Lib.hid hHeld
                have r9b' : Hid (Box wq5 r9 #[.int .i64 0, .int .i64 0, .int .i64 0] 34) := Lib.hid ((gr.block r9 r9b.out.lt NA.out).trans r9b.out)
                clear ow gr bl lc o3 o5 r9b NA
                have r9b := r9b'
                clear r9b'
                refine wpAnyL_one (i := 8) rfl (by kernel_rfl) (by kernel_rfl) hClosed (fun KK hK => ?_)
                go_simp
                refine (FR.out _ _ _ hHeld o6.out).mono ?_
                rintro e wq6 ⟨rfl, hb8⟩
                go_wp2_with fail
                refine hK.out _ _ ?_ (fun hClosed hHeld => ?_)
                · exact hHeld.trans (hb8.mono hHeld.size)
                clear hK KK
                (first | simp only [List.getElem_toArray, List.getElem_cons_succ, List.getElem_cons_zero, put_at, List.set] | (try simp only [put_at, List.set]))
                have BL := Lib.hid hHeld
                have r9b' := Lib.hid (r9b.out.later hb8)
                clear r9b
                have r9b := r9b'
                clear r9b'
                clear hb8 o6
                refine wpAnyL_last rfl (by kernel_rfl) (by kernel_rfl) (fun KK hK => ?_)
                have l9 := r9b.out.lt
                have c0 := r9b.out.cell 0
                have c1 := r9b.out.cell 1
                have c2 := r9b.out.cell 2
                have f0 := r9b.out.free 0
                have f1 := r9b.out.free 1
                have f2 := r9b.out.free 2
                go_simp
                refine hK.out _ _ ?_
                (try simp only [put_at, List.set])
                go_wp2
                go_meet
                exact ⟨r9, rfl, Lib.hid (((r9b.out.set 0 (.int .i64 C)).set 1 (.int .i64 R)).set 2 (.int .i64 d1)), Lib.hid (((BL.out.setCell (p := ⟨r9, 0, none⟩) NB.out (.int .i64 C)).setCell (p := ⟨r9, 1, none⟩) NB.out (.int .i64 R)).setCell (p := ⟨r9, 2, none⟩) NB.out (.int .i64 d1))⟩
            · go_simp
              refine hK.out _ _ ?_ (fun hClosed hHeld => ?_)
              · exact hHeld.alloc hHeld.size _
              clear hK KK
              (first | simp only [List.getElem_toArray, List.getElem_cons_succ, List.getElem_cons_zero, put_at, List.set] | (try simp only [put_at, List.set]))
              refine last_forget (fun W => Hid (Below w1.heap.size w1 W) ∧ Hid (Own W w1.heap.size 28 2 (some ⟨g1, 0, none⟩) 0 0 []) ∧ Hid (Own W w1.heap.size 28 2 (some ⟨g5, 0, none⟩) 1 1 [.string nRa, .string sv]) ∧ Hid (Box W wq2.heap.size #[.int .i64 0, .int .i64 0, .int .i64 0] 34)) ⟨Lib.hid hHeld, Lib.hid (o1.out.alloc _), Lib.hid (o5.out.alloc _), Lib.hid (Box.new wq2 #[.int .i64 0, .int .i64 0, .int .i64 0] 34)⟩ ?_
              obtain ⟨r9, hr9⟩ : ∃ g, wq2.heap.size = g := ⟨_, rfl⟩
              have NR : Hid (r9 ≠ g1) := Lib.hid (by have := o1.out.lt.2; omega)
              have NB : Hid (w1.heap.size ≤ r9) := Lib.hid (by have := BL.out.size; omega)
              rw [hr9]
              clear hr9 hHeld BL o1 o5
              rintro wq3 ⟨BL, o1, o5, r9b⟩
              have hHeld := BL.out
              refine wpAnyL_one (i := 3) rfl (by kernel_rfl) (by kernel_rfl) hClosed (fun KK hK => ?_)
              refine step_appE rowHd rfl _ _ rfl w1.heap.size (some ⟨g1, 0, none⟩) 0 0 [] rfl o1.out sa n c (hs.flatMap hdL) rfl LEN.out (RDC.out _ hHeld) ONE.out (by omega) (by decide) hHeld.size n (Nat.zero_add n) (hs.flatMap hdL) (List.nil_append _) ?_
              rintro a3 cap3 wq4 ow gr bl lc
              refine hK.out _ _ ?_ (fun hClosed hHeld => ?_)
              · exact hHeld.trans bl
              clear hK KK
              (first | simp only [List.getElem_toArray, List.getElem_cons_succ, List.getElem_cons_zero, put_at, List.set] | (try simp only [put_at, List.set]))
              have o3 := Lib.hid ow
              have BL := Lib.hid hHeld
              have o5' := Lib.hid (o5.out.blocks (fun g e => gr.block g (by injection e with e; injection e with e; subst e; exact o5.out.lt.2) (fun e2 => by injection e with e; injection e with e; subst e; exact NE.out (by simpa using e2))))
              have NA : Hid (some r9 ≠ a3.map (·.block)) := Lib.hid (fun e => by
                rcases lc r9 (own_mapF ow e.symm) with h | h
                · exact NR.out (by simpa using h.symm)
                · have := r9b.out.lt
                  omega)
              have r9b' : Hid (Box wq4 r9 #[.int .i64 0, .int .i64 0, .int .i64 0] 34) := Lib.hid ((gr.block r9 r9b.out.lt (fun e => NR.out (by simpa using e))).trans r9b.out)
              clear ow gr bl lc o1 o5 NE r9b NR
              have o5 := o5'
              clear o5'
              have r9b := r9b'
              clear r9b'
              refine wpAnyL_one (i := 6) rfl (by kernel_rfl) (by kernel_rfl) hClosed (fun KK hK => ?_)
              refine step_appE rowHd rfl _ _ rfl w1.heap.size a3 n cap3 (hs.flatMap hdL) rfl o3.out (some ⟨g5, 0, none⟩) 1 1 [.string nRa, .string sv] rfl rfl (rdC_ownF o5.out) (one_hd _ _) (by omega) (by decide) hHeld.size (n + 1) rfl ((hs ++ [(nRa, sv)]).flatMap hdL) (flat_snoc _ (nRa, sv)) ?_
              rintro a6 cap6 wq5 ow gr bl lc
              refine hK.out _ _ ?_ (fun hClosed hHeld => ?_)
              · exact hHeld.trans bl
              clear hK KK
              (first | simp only [List.getElem_toArray, List.getElem_cons_succ, List.getElem_cons_zero, put_at, List.set] | (try simp only [put_at, List.set]))
              have o6 := Lib.hid ow
              have BL := Lib.hid hHeld
              have r9b' : Hid (Box wq5 r9 #[.int .i64 0, .int .i64 0, .int .i64 0] 34) := Lib.hid ((gr.block r9 r9b.out.lt NA.out).trans r9b.out)
              clear ow gr bl lc o3 o5 r9b NA
              have r9b := r9b'
              clear r9b'
              refine wpAnyL_one (i := 8) rfl (by kernel_rfl) (by kernel_rfl) hClosed (fun KK hK => ?_)
              go_simp
              refine (FR.out _ _ _ hHeld o6.out).mono ?_
              rintro e wq6 ⟨rfl, hb8⟩
              go_wp2_with fail
              refine hK.out _ _ ?_ (fun hClosed hHeld => ?_)
              · exact hHeld.trans (hb8.mono hHeld.size)
              clear hK KK
              (first | simp only [List.getElem_toArray, List.getElem_cons_succ, List.getElem_cons_zero, put_at, List.set] | (try simp only [put_at, List.set]))
              have BL := Lib.hid hHeld
              have r9b' := Lib.hid (r9b.out.later hb8)
              clear r9b
              have r9b := r9b'
              clear r9b'
              clear hb8 o6
              refine wpAnyL_last rfl (by kernel_rfl) (by kernel_rfl) (fun KK hK => ?_)
              have l9 := r9b.out.lt
              have c0 := r9b.out.cell 0
              have c1 := r9b.out.cell 1
              have c2 := r9b.out.cell 2
              have f0 := r9b.out.free 0
              have f1 := r9b.out.free 1
              have f2 := r9b.out.free 2
              go_simp
              refine hK.out _ _ ?_
              (try simp only [put_at, List.set])
              go_wp2
              go_meet
              exact ⟨r9, rfl, Lib.hid (((r9b.out.set 0 (.int .i64 C)).set 1 (.int .i64 R)).set 2 (.int .i64 d1)), Lib.hid (((BL.out.setCell (p := ⟨r9, 0, none⟩) NB.out (.int .i64 C)).setCell (p := ⟨r9, 1, none⟩) NB.out (.int .i64 R)).setCell (p := ⟨r9, 2, none⟩) NB.out (.int .i64 d1))⟩
          · go_simp
            refine hK.out _ _ ?_ (fun hClosed hHeld => ?_)
            · exact hHeld.alloc hHeld.size _
            clear hK KK
            (first | simp only [List.getElem_toArray, List.getElem_cons_succ, List.getElem_cons_zero, put_at, List.set] | (try simp only [put_at, List.set]))
            refine last_forget (fun W => Hid (Below w1.heap.size w1 W) ∧ Hid (Own W w1.heap.size 28 2 (some ⟨g5, 0, none⟩) 1 1 [.string nRa, .string sv]) ∧ Hid (Box W wq1.heap.size #[.int .i64 0, .int .i64 0, .int .i64 0] 34)) ⟨Lib.hid hHeld, Lib.hid (o5.out.alloc _), Lib.hid (Box.new wq1 #[.int .i64 0, .int .i64 0, .int .i64 0] 34)⟩ ?_
            obtain ⟨r9, hr9⟩ : ∃ g, wq1.heap.size = g := ⟨_, rfl⟩
            have NB : Hid (w1.heap.size ≤ r9) := Lib.hid (by have := BL.out.size; omega)
            rw [hr9]
            clear hr9 hHeld BL o5
            rintro wq2 ⟨BL, o5, r9b⟩
            have hHeld := BL.out
            refine wpAnyL_one (i := 1) rfl (by kernel_rfl) (by kernel_rfl) hClosed (fun KK hK => ?_)
            go_simp
            refine hK.out _ _ ?_ (fun hClosed hHeld => ?_)
            · exact hHeld.alloc hHeld.size _
            clear hK KK
            (first | simp only [List.getElem_toArray, List.getElem_cons_succ, List.getElem_cons_zero, put_at, List.set] | (try simp only [put_at, List.set]))
            refine last_forget (fun W => Hid (Below w1.heap.size w1 W) ∧ Hid (Own W w1.heap.size 28 2 (some ⟨wq2.heap.size, 0, none⟩) 0 0 []) ∧ Hid (Own W w1.heap.size 28 2 (some ⟨g5, 0, none⟩) 1 1 [.string nRa, .string sv]) ∧ Hid (Box W r9 #[.int .i64 0, .int .i64 0, .int .i64 0] 34)) ⟨Lib.hid hHeld, Lib.hid (Own.lit (w := wq2) (B := w1.heap.size) (n := 0) (size := 2) (cs := #[]) (E := 28) BL.out.size (by decide) rfl), Lib.hid (o5.out.alloc _), Lib.hid (r9b.out.alloc _)⟩ ?_
            obtain ⟨g1, hg1⟩ : ∃ g, wq2.heap.size = g := ⟨_, rfl⟩
            have NE : Hid (g5 ≠ g1) := Lib.hid (by have := o5.out.lt.2; omega)
            have NR : Hid (r9 ≠ g1) := Lib.hid (by have := r9b.out.lt; omega)
            rw [hg1]
            clear hg1 hHeld BL o5 r9b
            rintro wq3 ⟨BL, o1, o5, r9b⟩
            have hHeld := BL.out
            refine wpAnyL_one (i := 3) rfl (by kernel_rfl) (by kernel_rfl) hClosed (fun KK hK => ?_)
            refine step_appE rowHd rfl _ _ rfl w1.heap.size (some ⟨g1, 0, none⟩) 0 0 [] rfl o1.out sa n c (hs.flatMap hdL) rfl LEN.out (RDC.out _ hHeld) ONE.out (by omega) (by decide) hHeld.size n (Nat.zero_add n) (hs.flatMap hdL) (List.nil_append _) ?_
            rintro a3 cap3 wq4 ow gr bl lc
            refine hK.out _ _ ?_ (fun hClosed hHeld => ?_)
            · exact hHeld.trans bl
            clear hK KK
            (first | simp only [List.getElem_toArray, List.getElem_cons_succ, List.getElem_cons_zero, put_at, List.set] | (try simp only [put_at, List.set]))
            have o3 := Lib.hid ow
            have BL := Lib.hid hHeld
            have o5' := Lib.hid (o5.out.blocks (fun g e => gr.block g (by injection e with e; injection e with e; subst e; exact o5.out.lt.2) (fun e2 => by injection e with e; injection e with e; subst e; exact NE.out (by simpa using e2))))
            have NA : Hid (some r9 ≠ a3.map (·.block)) := Lib.hid (fun e => by
              rcases lc r9 (own_mapF ow e.symm) with h | h
              · exact NR.out (by simpa using h.symm)
              · have := r9b.out.lt
                omega)
            have r9b' : Hid (Box wq4 r9 #[.int .i64 0, .int .i64 0, .int .i64 0] 34) := Lib.hid ((gr.block r9 r9b.out.lt (fun e => NR.out (by simpa using e))).trans r9b.out)
            clear ow gr bl lc o1 o5 NE r9b NR
            have o5 := o5'
            clear o5'
            have r9b := r9b'
            clear r9b'
            refine wpAnyL_one (i := 6) rfl (by kernel_rfl) (by kernel_rfl) hClosed (fun KK hK => ?_)
            refine step_appE rowHd rfl _ _ rfl w1.heap.size a3 n cap3 (hs.flatMap hdL) rfl o3.out (some ⟨g5, 0, none⟩) 1 1 [.string nRa, .string sv] rfl rfl (rdC_ownF o5.out) (one_hd _ _) (by omega) (by decide) hHeld.size (n + 1) rfl ((hs ++ [(nRa, sv)]).flatMap hdL) (flat_snoc _ (nRa, sv)) ?_
            rintro a6 cap6 wq5 ow gr bl lc
            refine hK.out _ _ ?_ (fun hClosed hHeld => ?_)
            · exact hHeld.trans bl
            clear hK KK
            (first | simp only [List.getElem_toArray, List.getElem_cons_succ, List.getElem_cons_zero, put_at, List.set] | (try simp only [put_at, List.set]))
            have o6 := Lib.hid ow
            have BL := Lib.hid hHeld
            have r9b' : Hid (Box wq5 r9 #[.int .i64 0, .int .i64 0, .int .i64 0] 34) := Lib.hid ((gr.block r9 r9b.out.lt NA.out).trans r9b.out)
            clear ow gr bl lc o3 o5 r9b NA
            have r9b := r9b'
            clear r9b'
            refine wpAnyL_one (i := 8) rfl (by kernel_rfl) (by kernel_rfl) hClosed (fun KK hK => ?_)
            go_simp
            refine (FR.out _ _ _ hHeld o6.out).mono ?_
            rintro e wq6 ⟨rfl, hb8⟩
            go_wp2_with fail
            refine hK.out _ _ ?_ (fun hClosed hHeld => ?_)
            · exact hHeld.trans (hb8.mono hHeld.size)
            clear hK KK
            (first | simp only [List.getElem_toArray, List.getElem_cons_succ, List.getElem_cons_zero, put_at, List.set] | (try simp only [put_at, List.set]))
            have BL := Lib.hid hHeld
            have r9b' := Lib.hid (r9b.out.later hb8)
            clear r9b
            have r9b := r9b'
            clear r9b'
            clear hb8 o6
            refine wpAnyL_last rfl (by kernel_rfl) (by kernel_rfl) (fun KK hK => ?_)
            have l9 := r9b.out.lt
            have c0 := r9b.out.cell 0
            have c1 := r9b.out.cell 1
            have c2 := r9b.out.cell 2
            have f0 := r9b.out.free 0
            have f1 := r9b.out.free 1
            have f2 := r9b.out.free 2
            go_simp
            refine hK.out _ _ ?_
            (try simp only [put_at, List.set])
            go_wp2
            go_meet
            exact ⟨r9, rfl, Lib.hid (((r9b.out.set 0 (.int .i64 C)).set 1 (.int .i64 R)).set 2 (.int .i64 d1)), Lib.hid (((BL.out.setCell (p := ⟨r9, 0, none⟩) NB.out (.int .i64 C)).setCell (p := ⟨r9, 1, none⟩) NB.out (.int .i64 R)).setCell (p := ⟨r9, 2, none⟩) NB.out (.int .i64 d1))⟩
        · go_simp
          refine hK.out _ _ ?_ (fun hClosed hHeld => ?_)
          · exact hHeld.alloc hHeld.size _
          clear hK KK
          (first | simp only [List.getElem_toArray, List.getElem_cons_succ, List.getElem_cons_zero, put_at, List.set] | (try simp only [put_at, List.set]))
          refine last_forget (fun W => Hid (Below w1.heap.size w1 W) ∧ Hid (Box W wq0.heap.size #[.int .i64 0, .int .i64 0, .int .i64 0] 34)) ⟨Lib.hid hHeld, Lib.hid (Box.new wq0 #[.int .i64 0, .int .i64 0, .int .i64 0] 34)⟩ ?_
          obtain ⟨r9, hr9⟩ : ∃ g, wq0.heap.size = g := ⟨_, rfl⟩
          have NB : Hid (w1.heap.size ≤ r9) := Lib.hid (by have := BL.out.size; omega)
          rw [hr9]
          clear hr9 hHeld BL
          rintro wq1 ⟨BL, r9b⟩
          have hHeld := BL.out
          refine wpAnyL_two (i := 1) (j := 5) rfl rfl (by kernel_rfl) (by kernel_rfl) (by kernel_rfl) hClosed (fun KK hK => ?_) (fun KK hK => ?_)
          · go_simp
            refine hK.out _ _ ?_ (fun hClosed hHeld => ?_)
            · exact hHeld.alloc hHeld.size _
            clear hK KK
            (first | simp only [List.getElem_toArray, List.getElem_cons_succ, List.getElem_cons_zero, put_at, List.set] | (try simp only [put_at, List.set]))
            refine last_forget (fun W => Hid (Below w1.heap.size w1 W) ∧ Hid (Own W w1.heap.size 28 2 (some ⟨wq1.heap.size, 0, none⟩) 0 0 []) ∧ Hid (Box W r9 #[.int .i64 0, .int .i64 0, .int .i64 0] 34)) ⟨Lib.hid hHeld, Lib.hid (Own.lit (w := wq1) (B := w1.heap.size) (n := 0) (size := 2) (cs := #[]) (E := 28) BL.out.size (by decide) rfl), Lib.hid (r9b.out.alloc _)⟩ ?_
            obtain ⟨g1, hg1⟩ : ∃ g, wq1.heap.size = g := ⟨_, rfl⟩
            have NR : Hid (r9 ≠ g1) := Lib.hid (by have := r9b.out.lt; omega)
            rw [hg1]
            clear hg1 hHeld BL r9b
            rintro wq2 ⟨BL, o1, r9b⟩
            have hHeld := BL.out
            refine wpAnyL_two (i := 3) (j := 5) rfl rfl (by kernel_rfl) (by kernel_rfl) (by kernel_rfl) hClosed (fun KK hK => ?_) (fun KK hK => ?_)
            · refine step_appE rowHd rfl _ _ rfl w1.heap.size (some ⟨g1, 0, none⟩) 0 0 [] rfl o1.out sa n c (hs.flatMap hdL) rfl LEN.out (RDC.out _ hHeld) ONE.out (by omega) (by decide) hHeld.size n (Nat.zero_add n) (hs.flatMap hdL) (List.nil_append _) ?_
              rintro a3 cap3 wq3 ow gr bl lc
              refine hK.out _ _ ?_ (fun hClosed hHeld => ?_)
              · exact hHeld.trans bl
              clear hK KK
              (first | simp only [List.getElem_toArray, List.getElem_cons_succ, List.getElem_cons_zero, put_at, List.set] | (try simp only [put_at, List.set]))
              have o3 := Lib.hid ow
              have BL := Lib.hid hHeld
              have NA : Hid (some r9 ≠ a3.map (·.block)) := Lib.hid (fun e => by
                rcases lc r9 (own_mapF ow e.symm) with h | h
                · exact NR.out (by simpa using h.symm)
                · have := r9b.out.lt
                  omega)
              have r9b' : Hid (Box wq3 r9 #[.int .i64 0, .int .i64 0, .int .i64 0] 34) := Lib.hid ((gr.block r9 r9b.out.lt (fun e => NR.out (by simpa using e))).trans r9b.out)
              clear ow gr bl lc o1 r9b NR
              have r9b := r9b'
              clear r9b'
              refine wpAnyL_one (i := 5) rfl (by kernel_rfl) (by kernel_rfl) hClosed (fun KK hK => ?_)
              go_simp
              refine hK.out _ _ ?_ (fun hClosed hHeld => ?_)
              · exact hHeld.alloc hHeld.size _
              clear hK KK
              (first | simp only [List.getElem_toArray, List.getElem_cons_succ, List.getElem_cons_zero, put_at, List.set] | (try simp only [put_at, List.set]))
              refine last_forget (fun W => Hid (Below w1.heap.size w1 W) ∧ Hid (Own W w1.heap.size 28 2 a3 n cap3 (hs.flatMap hdL)) ∧ Hid (Own W w1.heap.size 28 2 (some ⟨wq3.heap.size, 0, none⟩) 1 1 [.string nRa, .string sv]) ∧ Hid (Box W r9 #[.int .i64 0, .int .i64 0, .int .i64 0] 34)) ⟨Lib.hid hHeld, Lib.hid (o3.out.alloc _), Lib.hid (Own.lit (w := wq3) (B := w1.heap.size) (n := 1) (size := 2) (cs := #[.string nRa, .string sv]) (E := 28) BL.out.size (by decide) rfl), Lib.hid (r9b.out.alloc _)⟩ ?_
              obtain ⟨g5, hg5⟩ : ∃ g, wq3.heap.size = g := ⟨_, rfl⟩
              rw [hg5]
              clear hg5 hHeld BL o3 r9b
              rintro wq4 ⟨BL, o3, o5, r9b⟩
              have hHeld := BL.out
              refine wpAnyL_one (i := 6) rfl (by kernel_rfl) (by kernel_rfl) hClosed (fun KK hK => ?_)
              refine step_appE rowHd rfl _ _ rfl w1.heap.size a3 n cap3 (hs.flatMap hdL) rfl o3.out (some ⟨g5, 0, none⟩) 1 1 [.string nRa, .string sv] rfl rfl (rdC_ownF o5.out) (one_hd _ _) (by omega) (by decide) hHeld.size (n + 1) rfl ((hs ++ [(nRa, sv)]).flatMap hdL) (flat_snoc _ (nRa, sv)) ?_
              rintro a6 cap6 wq5 ow gr bl lc
              refine hK.out _ _ ?_ (fun hClosed hHeld => ?_)
              · exact hHeld.trans bl
              clear hK KK
              (first | simp only [List.getElem_toArray, List.getElem_cons_succ, List.getElem_cons_zero, put_at, List.set] | (try simp only [put_at, List.set]))
              have o6 := Lib.hid ow
              have BL := Lib.hid hHeld
              have r9b' : Hid (Box wq5 r9 #[.int .i64 0, .int .i64 0, .int .i64 0] 34) := Lib.hid ((gr.block r9 r9b.out.lt NA.out).trans r9b.out)
              clear ow gr bl lc o3 o5 r9b NA
              have r9b := r9b'
              clear r9b'
              refine wpAnyL_one (i := 8) rfl (by kernel_rfl) (by kernel_rfl) hClosed (fun KK hK => ?_)
              go_simp
              refine (FR.out _ _ _ hHeld o6.out).mono ?_
              rintro e wq6 ⟨rfl, hb8⟩
              go_wp2_with fail
              refine hK.out _ _ ?_ (fun hClosed hHeld => ?_)
              · exact hHeld.trans (hb8.mono hHeld.size)
              clear hK KK
              (first | simp only [List.getElem_toArray, List.getElem_cons_succ, List.getElem_cons_zero, put_at, List.set] | (try simp only [put_at, List.set]))
              have BL := Lib.hid hHeld
              have r9b' := Lib.hid (r9b.out.later hb8)
              clear r9b
              have r9b := r9b'
              clear r9b'
              clear hb8 o6
              refine wpAnyL_last rfl (by kernel_rfl) (by kernel_rfl) (fun KK hK => ?_)
              have l9 := r9b.out.lt
              have c0 := r9b.out.cell 0
              have c1 := r9b.out.cell 1
              have c2 := r9b.out.cell 2
              have f0 := r9b.out.free 0
              have f1 := r9b.out.free 1
              have f2 := r9b.out.free 2
              go_simp
              refine hK.out _ _ ?_
              (try simp only [put_at, List.set])
              go_wp2
              go_meet
              exact ⟨r9, rfl, Lib.hid (((r9b.out.set 0 (.int .i64 C)).set 1 (.int .i64 R)).set 2 (.int .i64 d1)), Lib.hid (((BL.out.setCell (p := ⟨r9, 0, none⟩) NB.out (.int .i64 C)).setCell (p := ⟨r9, 1, none⟩) NB.out (.int .i64 R)).setCell (p := ⟨r9, 2, none⟩) NB.out (.int .i64 d1))⟩
            · go_simp
              refine hK.out _ _ ?_ (fun hClosed hHeld => ?_)
              · exact hHeld.alloc hHeld.size _
              clear hK KK
              (first | simp only [List.getElem_toArray, List.getElem_cons_succ, List.getElem_cons_zero, put_at, List.set] | (try simp only [put_at, List.set]))
              refine last_forget (fun W => Hid (Below w1.heap.size w1 W) ∧ Hid (Own W w1.heap.size 28 2 (some ⟨g1, 0, none⟩) 0 0 []) ∧ Hid (Own W w1.heap.size 28 2 (some ⟨wq2.heap.size, 0, none⟩) 1 1 [.string nRa, .string sv]) ∧ Hid (Box W r9 #[.int .i64 0, .int .i64 0, .int .i64 0] 34)) ⟨Lib.hid hHeld, Lib.hid (o1.out.alloc _), Lib.hid (Own.lit (w := wq2) (B := w1.heap.size) (n := 1) (size := 2) (cs := #[.string nRa, .string sv]) (E := 28) BL.out.size (by decide) rfl), Lib.hid (r9b.out.alloc _)⟩ ?_
              obtain ⟨g5, hg5⟩ : ∃ g, wq2.heap.size = g := ⟨_, rfl⟩
              have NE : Hid (g5 ≠ g1) := Lib.hid (by have := o1.out.lt.2; omega)
              rw [hg5]
              clear hg5 hHeld BL o1 r9b
              rintro wq3 ⟨BL, o1, o5, r9b⟩
              have hHeld := BL.out
              refine wpAnyL_one (i := 3) rfl (by kernel_rfl) (by kernel_rfl) hClosed (fun KK hK => ?_)
              refine step_appE rowHd rfl _ _ rfl w1.heap.size (some ⟨g1, 0, none⟩) 0 0 [] rfl o1.out sa n c (hs.flatMap hdL) rfl LEN.out (RDC.out _ hHeld) ONE.out (by omega) (by decide) hHeld.size n (Nat.zero_add n) (hs.flatMap hdL) (List.nil_append _) ?_
              rintro a3 cap3 wq4 ow gr bl lc
              refine hK.out _ _ ?_ (fun hClosed hHeld => ?_)
              · exact hHeld.trans bl
              clear hK KK
              (first | simp only [List.getElem_toArray, List.getElem_cons_succ, List.getElem_cons_zero, put_at, List.set] | (try simp only [put_at, List.set]))
              have o3 := Lib.hid ow
              have BL := Lib.hid hHeld
              have o5' := Lib.hid (o5.out.blocks (fun g e => gr.block g (by injection e with e; injection e with e; subst e; exact o5.out.lt.2) (fun e2 => by injection e with e; injection e with e; subst e; exact NE.out (by simpa using e2))))
              have NA : Hid (some r9 ≠ a3.map (·.block)) := Lib.hid (fun e => by
                rcases lc r9 (own_mapF ow e.symm) with h | h
                · exact NR.out (by simpa using h.symm)
                · have := r9b.out.lt
                  omega)
              have r9b' : Hid (Box wq4 r9 #[.int .i64 0, .int .i64 0, .int .i64 0] 34) := Lib.hid ((gr.block r9 r9b.out.lt (fun e => NR.out (by simpa using e))).trans r9b.out)
              clear ow gr bl lc o1 o5 NE r9b NR
              have o5 := o5'
              clear o5'
              have r9b := r9b'
              clear r9b'
              refine wpAnyL_one (i := 6) rfl (by kernel_rfl) (by kernel_rfl) hClosed (fun KK hK => ?_)
              refine step_appE rowHd rfl _ _ rfl w1.heap.size a3 n cap3 (hs.flatMap hdL) rfl o3.out (some ⟨g5, 0, none⟩) 1 1 [.string nRa, .string sv] rfl rfl (rdC_ownF o5.out) (one_hd _ _) (by omega) (by decide) hHeld.size (n + 1) rfl ((hs ++ [(nRa, sv)]).flatMap hdL) (flat_snoc _ (nRa, sv)) ?_
              rintro a6 cap6 wq5 ow gr bl lc
              refine hK.out _ _ ?_ (fun hClosed hHeld => ?_)
              · exact hHeld.trans bl
              clear hK KK
              (first | simp only [List.getElem_toArray, List.getElem_cons_succ, List.getElem_cons_zero, put_at, List.set] | (try simp only [put_at, List.set]))
              have o6 := Lib.hid ow
              have BL := Lib.hid hHeld
              have r9b' : Hid (Box wq5 r9 #[.int .i64 0, .int .i64 0, .int .i64 0] 34) := Lib.hid ((gr.block r9 r9b.out.lt NA.out).trans r9b.out)
              clear ow gr bl lc o3 o5 r9b NA
              have r9b := r9b'
              clear r9b'
              refine wpAnyL_one (i := 8) rfl (by kernel_rfl) (by kernel_rfl) hClosed (fun KK hK => ?_)
              go_simp
              refine (FR.out _ _ _ hHeld o6.out).mono ?_
              rintro e wq6 ⟨rfl, hb8⟩
              go_wp2_with fail
              refine hK.out _ _ ?_ (fun hClosed hHeld => ?_)
              · exact hHeld.trans (hb8.mono hHeld.size)
              clear hK KK
              (first | simp only [List.getElem_toArray, List.getElem_cons_succ, List.getElem_cons_zero, put_at, List.set] | (try simp only [put_at, List.set]))
              have BL := Lib.hid hHeld
              have r9b' := Lib.hid (r9b.out.later hb8)
              clear r9b
              have r9b := r9b'
              clear r9b'
              clear hb8 o6
              refine wpAnyL_last rfl (by kernel_rfl) (by kernel_rfl) (fun KK hK => ?_)
              have l9 := r9b.out.lt
              have c0 := r9b.out.cell 0
              have c1 := r9b.out.cell 1
              have c2 := r9b.out.cell 2
              have f0 := r9b.out.free 0
              have f1 := r9b.out.free 1
              have f2 := r9b.out.free 2
              go_simp
              refine hK.out _ _ ?_
              (try simp only [put_at, List.set])
              go_wp2
              go_meet
              exact ⟨r9, rfl, Lib.hid (((r9b.out.set 0 (.int .i64 C)).set 1 (.int .i64 R)).set 2 (.int .i64 d1)), Lib.hid (((BL.out.setCell (p := ⟨r9, 0, none⟩) NB.out (.int .i64 C)).setCell (p := ⟨r9, 1, none⟩) NB.out (.int .i64 R)).setCell (p := ⟨r9, 2, none⟩) NB.out (.int .i64 d1))⟩
          · go_simp
            refine hK.out _ _ ?_ (fun hClosed hHeld => ?_)
            · exact hHeld.alloc hHeld.size _
            clear hK KK
            (first | simp only [List.getElem_toArray, List.getElem_cons_succ, List.getElem_cons_zero, put_at, List.set] | (try simp only [put_at, List.set]))
            refine last_forget (fun W => Hid (Below w1.heap.size w1 W) ∧ Hid (Own W w1.heap.size 28 2 (some ⟨wq1.heap.size, 0, none⟩) 1 1 [.string nRa, .string sv]) ∧ Hid (Box W r9 #[.int .i64 0, .int .i64 0, .int .i64 0] 34)) ⟨Lib.hid hHeld, Lib.hid (Own.lit (w := wq1) (B := w1.heap.size) (n := 1) (size := 2) (cs := #[.string nRa, .string sv]) (E := 28) BL.out.size (by decide) rfl), Lib.hid (r9b.out.alloc _)⟩ ?_
            obtain ⟨g5, hg5⟩ : ∃ g, wq1.heap.size = g := ⟨_, rfl⟩
            rw [hg5]
            clear hg5 hHeld BL r9b
            rintro wq2 ⟨BL, o5, r9b⟩
            have hHeld := BL.out
            refine wpAnyL_one (i := 1) rfl (by kernel_rfl) (by kernel_rfl) hClosed (fun KK hK => ?_)
            go_simp
            refine hK.out _ _ ?_ (fun hClosed hHeld => ?_)
            · exact hHeld.alloc hHeld.size _
            clear hK KK
            (first | simp only [List.getElem_toArray, List.getElem_cons_succ, List.getElem_cons_zero, put_at, List.set] | (try simp only [put_at, List.set]))
            refine last_forget (fun W => Hid (Below w1.heap.size w1 W) ∧ Hid (Own W w1.heap.size 28 2 (some ⟨wq2.heap.size, 0, none⟩) 0 0 []) ∧ Hid (Own W w1.heap.size 28 2 (some ⟨g5, 0, none⟩) 1 1 [.string nRa, .string sv]) ∧ Hid (Box W r9 #[.int .i64 0, .int .i64 0, .int .i64 0] 34)) ⟨Lib.hid hHeld, Lib.hid (Own.lit (w := wq2) (B := w1.heap.size) (n := 0) (size := 2) (cs := #[]) (E := 28) BL.out.size (by decide) rfl), Lib.hid (o5.out.alloc _), Lib.hid (r9b.out.alloc _)⟩ ?_
            obtain ⟨g1, hg1⟩ : ∃ g, wq2.heap.size = g := ⟨_, rfl⟩
            have NE : Hid (g5 ≠ g1) := Lib.hid (by have := o5.out.lt.2; omega)
            have NR : Hid (r9 ≠ g1) := Lib.hid (by have := r9b.out.lt; omega)
            rw [hg1]
            clear hg1 hHeld BL o5 r9b
            rintro wq3 ⟨BL, o1, o5, r9b⟩
            have hHeld := BL.out
            refine wpAnyL_one (i := 3) rfl (by kernel_rfl) (by kernel_rfl) hClosed (fun KK hK => ?_)
            refine step_appE rowHd rfl _ _ rfl w1.heap.size (some ⟨g1, 0, none⟩) 0 0 [] rfl o1.out sa n c (hs.flatMap hdL) rfl LEN.out (RDC.out _ hHeld) ONE.out (by omega) (by decide) hHeld.size n (Nat.zero_add n) (hs.flatMap hdL) (List.nil_append _) ?_
            rintro a3 cap3 wq4 ow gr bl lc
            refine hK.out _ _ ?_ (fun hClosed hHeld => ?_)
            · exact hHeld.trans bl
            clear hK KK
            (first | simp only [List.getElem_toArray, List.getElem_cons_succ, List.getElem_cons_zero, put_at, List.set] | (try simp only [put_at, List.set]))
            have o3 := Lib.hid ow
            have BL := Lib.hid hHeld
            have o5' := Lib.hid (o5.out.blocks (fun g e => gr.block g (by injection e with e; injection e with e; subst e; exact o5.out.lt.2) (fun e2 => by injection e with e; injection e with e; subst e; exact NE.out (by simpa using e2))))
            have NA : Hid (some r9 ≠ a3.map (·.block)) := Lib.hid (fun e => by
              rcases lc r9 (own_mapF ow e.symm) with h | h
              · exact NR.out (by simpa using h.symm)
              · have := r9b.out.lt
                omega)
            have r9b' : Hid (Box wq4 r9 #[.int .i64 0, .int .i64 0, .int .i64 0] 34) := Lib.hid ((gr.block r9 r9b.out.lt (fun e => NR.out (by simpa using e))).trans r9b.out)
            clear ow gr bl lc o1 o5 NE r9b NR
            have o5 := o5'
            clear o5'
            have r9b := r9b'
            clear r9b'
            refine wpAnyL_one (i := 6) rfl (by kernel_rfl) (by kernel_rfl) hClosed (fun KK hK => ?_)
            refine step_appE rowHd rfl _ _ rfl w1.heap.size a3 n cap3 (hs.flatMap hdL) rfl o3.out (some ⟨g5, 0, none⟩) 1 1 [.string nRa, .string sv] rfl rfl (rdC_ownF o5.out) (one_hd _ _) (by omega) (by decide) hHeld.size (n + 1) rfl ((hs ++ [(nRa, sv)]).flatMap hdL) (flat_snoc _ (nRa, sv)) ?_
            rintro a6 cap6 wq5 ow gr bl lc
            refine hK.out _ _ ?_ (fun hClosed hHeld => ?_)
            · exact hHeld.trans bl
            clear hK KK
            (first | simp only [List.getElem_toArray, List.getElem_cons_succ, List.getElem_cons_zero, put_at, List.set] | (try simp only [put_at, List.set]))
            have o6 := Lib.hid ow
            have BL := Lib.hid hHeld
            have r9b' : Hid (Box wq5 r9 #[.int .i64 0, .int .i64 0, .int .i64 0] 34) := Lib.hid ((gr.block r9 r9b.out.lt NA.out).trans r9b.out)
            clear ow gr bl lc o3 o5 r9b NA
            have r9b := r9b'
            clear r9b'
            refine wpAnyL_one (i := 8) rfl (by kernel_rfl) (by kernel_rfl) hClosed (fun KK hK => ?_)
            go_simp
            refine (FR.out _ _ _ hHeld o6.out).mono ?_
            rintro e wq6 ⟨rfl, hb8⟩
            go_wp2_with fail
            refine hK.out _ _ ?_ (fun hClosed hHeld => ?_)
            · exact hHeld.trans (hb8.mono hHeld.size)
            clear hK KK
            (first | simp only [List.getElem_toArray, List.getElem_cons_succ, List.getElem_cons_zero, put_at, List.set] | (try simp only [put_at, List.set]))
            have BL := Lib.hid hHeld
            have r9b' := Lib.hid (r9b.out.later hb8)
            clear r9b
            have r9b := r9b'
            clear r9b'
            clear hb8 o6
            refine wpAnyL_last rfl (by kernel_rfl) (by kernel_rfl) (fun KK hK => ?_)
            have l9 := r9b.out.lt
            have c0 := r9b.out.cell 0
            have c1 := r9b.out.cell 1
            have c2 := r9b.out.cell 2
            have f0 := r9b.out.free 0
            have f1 := r9b.out.free 1
            have f2 := r9b.out.free 2
            go_simp
            refine hK.out _ _ ?_
            (try simp only [put_at, List.set])
            go_wp2
            go_meet
            exact ⟨r9, rfl, Lib.hid (((r9b.out.set 0 (.int .i64 C)).set 1 (.int .i64 R)).set 2 (.int .i64 d1)), Lib.hid (((BL.out.setCell (p := ⟨r9, 0, none⟩) NB.out (.int .i64 C)).setCell (p := ⟨r9, 1, none⟩) NB.out (.int .i64 R)).setCell (p := ⟨r9, 2, none⟩) NB.out (.int .i64 d1))⟩
      case rest =>
      obtain ⟨r, rfl, BR, BL⟩ := hcut
      have HB3 := Lib.hid (HB2.out.trans (BL.out.mono HB2.out.size))
      have BH3 := Lib.hid (BX.out.later BL.out)
      clear BX HB2 BL z0 z1 hlH FR RDC
      have z0 := BH3.out.cell 0
      have z1 := BH3.out.cell 1
      go_wp2_with fail
      refine (FN.out wc.heap.size _ (HB3.out.alloc HB3.out.size _) (hdAt_two (Box.new wc _ _))).mono ?_
      rintro e w4 ⟨rfl, hb⟩
      have HB4 := Lib.hid ((HB3.out.alloc HB3.out.size _).trans (hb.mono (HB3.out.alloc HB3.out.size _).size))
      have BR4 := Lib.hid ((BR.out.alloc _).later hb)
      clear hb HB3 BR BH3 z0 z1 FN
      go_upto_region 6 with fail
      refine code_forget (fun W => Hid (Box W w4.heap.size #[.int .i64 C, .int .i64 R, .int .i64 d2] 34) ∧ Hid (Below w4.heap.size w4 W)) ⟨Lib.hid (Box.new w4 _ _), Lib.hid ((Below.refl w4.heap.size w4).alloc (Nat.le_refl _) _)⟩ ?_
      obtain ⟨rb, hrb⟩ : ∃ x, w4.heap.size = x := ⟨_, rfl⟩
      have HRB := Lib.hid hrb
      rintro w5 ⟨CX, B0⟩
      have HB5 := Lib.hid (HB4.out.trans (B0.out.mono HB4.out.size))
      have BR5 := Lib.hid (BR4.out.later B0.out)
      rw [hrb] at CX ⊢
      clear hrb B0 HB4 BR4
      go_wp2_with fail
      refine (AW.out _ HB5.out).mono ?_
      rintro e w6 ⟨rfl, hb⟩
      have HB6 := Lib.hid (HB5.out.trans (hb.mono HB5.out.size))
      have b0 := (BR5.out.later hb).cell 0
      have b1 := (BR5.out.later hb).cell 1
      have b2 := (BR5.out.later hb).cell 2
      have e0 := (CX.out.later hb).cell 0
      have e1 := (CX.out.later hb).cell 1
      have e2 := (CX.out.later hb).cell 2
      clear hb HB5 BR5 CX
      go_wp2
      go_ret
      exact ⟨rfl, HB6.out⟩
end Go.Proofs.YtodibjpojfipoaaDoor
