/- Package audit: counts, and whether anything was sent twice. -/
import Derived.Test.YtelakgbpfnlpiaaAudGaps
namespace Go.Proofs.Ytelakgbpfnlpiaa
open Go.RowKit Go.Maps Go.WideMaps

def cnt (es : List Ev) (j : Int) : Int := ((es.filter (fun e => e.kind == j)).length : Int)
def cntA (es : List Ev) : Array Value := #[.int .i64 (cnt es 0), .int .i64 (cnt es 1), .int .i64 (cnt es 2), .int .i64 (cnt es 3), .int .i64 (cnt es 4)]
theorem take_snoc {es : List Ev} {k : Nat} {e : Ev} (he : es[k]? = some e) : es.take (k + 1) = es.take k ++ [e] := by
  rw [List.take_add_one, he]
  rfl
theorem cnt_snoc (es : List Ev) (e : Ev) (j : Int) : cnt (es ++ [e]) j = cnt es j + if e.kind = j then 1 else 0 := by
  unfold cnt
  rw [List.filter_append, List.length_append]
  by_cases h : e.kind = j
  · simp [h]
  · simp [h]
theorem cnt_le (es : List Ev) (j : Int) (k : Nat) : 0 ≤ cnt (es.take k) j ∧ cnt (es.take k) j ≤ k := by
  unfold cnt
  have h1 := List.length_filter_le (fun e : Ev => e.kind == j) (es.take k)
  rw [List.length_take] at h1
  omega
theorem cntA_in {w : World} {g : Nat} {T : TypeId} {es : List Ev} {k : Nat} {e : Ev} (h : Box w g (cntA (es.take k)) T) (he : es[k]? = some e) (j : Nat) (hj : j < 5) (hk : e.kind = (j : Int)) : Box (w.setCell ⟨g, j, none⟩ (.int .i64 (cnt (es.take k) (j : Int) + 1))) g (cntA (es.take (k + 1))) T := by
  have h1 := h.set j (.int .i64 (cnt (es.take k) (j : Int) + 1))
  have h2 : (cntA (es.take k)).setIfInBounds j (.int .i64 (cnt (es.take k) (j : Int) + 1)) = cntA (es.take (k + 1)) := by
    unfold cntA
    rw [take_snoc he, cnt_snoc, cnt_snoc, cnt_snoc, cnt_snoc, cnt_snoc, hk]
    match j, hj with
    | 0, _ => simp
    | 1, _ => simp
    | 2, _ => simp
    | 3, _ => simp
    | 4, _ => simp
  rw [h2] at h1
  exact h1
theorem cntA_out {es : List Ev} {k : Nat} {e : Ev} (he : es[k]? = some e) (hk : e.kind < 0 ∨ 4 < e.kind) : cntA (es.take (k + 1)) = cntA (es.take k) := by
  unfold cntA
  rw [take_snoc he, cnt_snoc, cnt_snoc, cnt_snoc, cnt_snoc, cnt_snoc, if_neg (by omega), if_neg (by omega), if_neg (by omega), if_neg (by omega), if_neg (by omega)]
  simp
set_option maxHeartbeats 2000000 in
theorem counts_at (es : List Ev) (a : Option Addr) (cap : Nat) (w : World) (hr : Rd w a es) (hl : es.length < 1000000) :
    Calls Try.prog 38 #[.slice a es.length cap] w fun e w' => e = .returned (.agg (cntA es)) ∧ Below w.heap.size w w' := by
  obtain ⟨b, off, ha, hc⟩ := hr.row
  have HA := Lib.hid ha
  have HC := Lib.hid hc
  clear ha hc hr
  go_enter Try.func38, Try.ntmps38
  go_wp2_with fail
  go_loopw [8] (fun vk wx => ∃ k : Nat, k ≤ es.length ∧ vk = .int .i64 k ∧ Hid (Below w.heap.size w wx) ∧ Hid (Box wx (w.heap.size + 1) (cntA (es.take k)) 63) ∧ Hid (Box wx w.heap.size #[.int .i64 0, .int .i64 0, .int .i64 0, .int .i64 0, .int .i64 0] 63)) (fun vk _ => es.length - (intOf vk).toNat)
  case atStart => exact ⟨0, by omega, rfl, Lib.hid (((Below.refl _ _).alloc (Nat.le_refl _) _).alloc (by simp) _), Lib.hid (by have := Box.new (w.alloc (.cells #[.int .i64 0, .int .i64 0, .int .i64 0, .int .i64 0, .int .i64 0] 63)) #[.int .i64 0, .int .i64 0, .int .i64 0, .int .i64 0, .int .i64 0] 63; rwa [World.size_alloc] at this), Lib.hid ((Box.new _ _ _).alloc _)⟩
  case round =>
    obtain ⟨k, hk, rfl, HB, HBX, HR0⟩ := hrel
    have hbs := HB.out.size
    have hbx := HBX.out
    obtain ⟨n0, h0⟩ : ∃ n, cnt (es.take k) 0 = n := ⟨_, rfl⟩
    obtain ⟨n1, h1⟩ : ∃ n, cnt (es.take k) 1 = n := ⟨_, rfl⟩
    obtain ⟨n2, h2⟩ : ∃ n, cnt (es.take k) 2 = n := ⟨_, rfl⟩
    obtain ⟨n3, h3⟩ : ∃ n, cnt (es.take k) 3 = n := ⟨_, rfl⟩
    obtain ⟨n4, h4⟩ : ∃ n, cnt (es.take k) 4 = n := ⟨_, rfl⟩
    have b0 := cnt_le es 0 k
    have b1 := cnt_le es 1 k
    have b2 := cnt_le es 2 k
    have b3 := cnt_le es 3 k
    have b4 := cnt_le es 4 k
    unfold cntA at hbx
    rw [h0, h1, h2, h3, h4] at hbx
    rw [h0] at b0
    rw [h1] at b1
    rw [h2] at b2
    rw [h3] at b3
    rw [h4] at b4
    have HN0 := Lib.hid h0
    have HN1 := Lib.hid h1
    have HN2 := Lib.hid h2
    have HN3 := Lib.hid h3
    have HN4 := Lib.hid h4
    clear h0 h1 h2 h3 h4
    obtain ⟨lx, cx, fx⟩ := hbx.facts
    clear hbx
    by_cases hlt : k < es.length
    · have hd1 : decide ((k : Int) < es.length) = true := decide_eq_true (by omega)
      have ha := HA.out (by omega)
      subst ha
      obtain ⟨⟨kd, tm, id, ho, pa, pr, la⟩, he⟩ : ∃ e, es[k]? = some e := ⟨_, List.getElem?_eq_getElem hlt⟩
      obtain ⟨c0, c1, c2, c3, c4, c5, c6⟩ := (RdB.later HC.out HB.out).at he
      simp only at c0 c1 c2 c3 c4 c5 c6
      have HE := Lib.hid he
      clear he
      rcases (by omega : (0 ≤ kd ∧ kd ≤ 4) ∨ kd < 0 ∨ 4 < kd) with hin | hlo | hhi
      · rcases (by omega : kd = 0 ∨ kd = 1 ∨ kd = 2 ∨ kd = 3 ∨ kd = 4) with hkd | hkd | hkd | hkd | hkd
        · subst hkd
          have hbx2 := cntA_in HBX.out HE.out 0 (by omega) rfl
          rw [show cnt (es.take k) ((0 : Nat) : Int) = n0 from HN0.out] at hbx2
          have HBX2 := Lib.hid (hbx2.alloc (.cells #[.int .i64 0, .int .i64 tm, .int .i64 id, .string ho, .string pa, .int .i64 pr, .int .i64 la] 58))
          clear hbx2
          go_wp2_with fail
          go_roundw
          case rel => exact ⟨k + 1, by omega, by go_num, Lib.hid ((HB.out.setCell (p := ⟨w.heap.size + 1, 0, none⟩) (Nat.le_succ _) _).alloc (by simpa [World.setCell] using hbs) _), HBX2, Lib.hid ((HR0.out.other (a := ⟨w.heap.size + 1, 0, none⟩) (by simp) _).alloc _)⟩
          case measure => simp [intOf]; omega
        · subst hkd
          have hbx2 := cntA_in HBX.out HE.out 1 (by omega) rfl
          rw [show cnt (es.take k) ((1 : Nat) : Int) = n1 from HN1.out] at hbx2
          have HBX2 := Lib.hid (hbx2.alloc (.cells #[.int .i64 1, .int .i64 tm, .int .i64 id, .string ho, .string pa, .int .i64 pr, .int .i64 la] 58))
          clear hbx2
          go_wp2_with fail
          go_roundw
          case rel => exact ⟨k + 1, by omega, by go_num, Lib.hid ((HB.out.setCell (p := ⟨w.heap.size + 1, 1, none⟩) (Nat.le_succ _) _).alloc (by simpa [World.setCell] using hbs) _), HBX2, Lib.hid ((HR0.out.other (a := ⟨w.heap.size + 1, 1, none⟩) (by simp) _).alloc _)⟩
          case measure => simp [intOf]; omega
        · subst hkd
          have hbx2 := cntA_in HBX.out HE.out 2 (by omega) rfl
          rw [show cnt (es.take k) ((2 : Nat) : Int) = n2 from HN2.out] at hbx2
          have HBX2 := Lib.hid (hbx2.alloc (.cells #[.int .i64 2, .int .i64 tm, .int .i64 id, .string ho, .string pa, .int .i64 pr, .int .i64 la] 58))
          clear hbx2
          go_wp2_with fail
          go_roundw
          case rel => exact ⟨k + 1, by omega, by go_num, Lib.hid ((HB.out.setCell (p := ⟨w.heap.size + 1, 2, none⟩) (Nat.le_succ _) _).alloc (by simpa [World.setCell] using hbs) _), HBX2, Lib.hid ((HR0.out.other (a := ⟨w.heap.size + 1, 2, none⟩) (by simp) _).alloc _)⟩
          case measure => simp [intOf]; omega
        · subst hkd
          have hbx2 := cntA_in HBX.out HE.out 3 (by omega) rfl
          rw [show cnt (es.take k) ((3 : Nat) : Int) = n3 from HN3.out] at hbx2
          have HBX2 := Lib.hid (hbx2.alloc (.cells #[.int .i64 3, .int .i64 tm, .int .i64 id, .string ho, .string pa, .int .i64 pr, .int .i64 la] 58))
          clear hbx2
          go_wp2_with fail
          go_roundw
          case rel => exact ⟨k + 1, by omega, by go_num, Lib.hid ((HB.out.setCell (p := ⟨w.heap.size + 1, 3, none⟩) (Nat.le_succ _) _).alloc (by simpa [World.setCell] using hbs) _), HBX2, Lib.hid ((HR0.out.other (a := ⟨w.heap.size + 1, 3, none⟩) (by simp) _).alloc _)⟩
          case measure => simp [intOf]; omega
        · subst hkd
          have hbx2 := cntA_in HBX.out HE.out 4 (by omega) rfl
          rw [show cnt (es.take k) ((4 : Nat) : Int) = n4 from HN4.out] at hbx2
          have HBX2 := Lib.hid (hbx2.alloc (.cells #[.int .i64 4, .int .i64 tm, .int .i64 id, .string ho, .string pa, .int .i64 pr, .int .i64 la] 58))
          clear hbx2
          go_wp2_with fail
          go_roundw
          case rel => exact ⟨k + 1, by omega, by go_num, Lib.hid ((HB.out.setCell (p := ⟨w.heap.size + 1, 4, none⟩) (Nat.le_succ _) _).alloc (by simpa [World.setCell] using hbs) _), HBX2, Lib.hid ((HR0.out.other (a := ⟨w.heap.size + 1, 4, none⟩) (by simp) _).alloc _)⟩
          case measure => simp [intOf]; omega
      ·   skip
          have HBX2 := Lib.hid (HBX.out.alloc (.cells #[.int .i64 kd, .int .i64 tm, .int .i64 id, .string ho, .string pa, .int .i64 pr, .int .i64 la] 58))
          rw [← cntA_out HE.out (by simp; omega)] at HBX2
          have hd2 : decide ((0 : Int) ≤ kd) = false := decide_eq_false (by omega)
          go_wp2_with fail
          go_roundw
          case rel => exact ⟨k + 1, by omega, by go_num, Lib.hid (HB.out.alloc hbs _), HBX2, Lib.hid (HR0.out.alloc _)⟩
          case measure => simp [intOf]; omega
      ·   skip
          have HBX2 := Lib.hid (HBX.out.alloc (.cells #[.int .i64 kd, .int .i64 tm, .int .i64 id, .string ho, .string pa, .int .i64 pr, .int .i64 la] 58))
          rw [← cntA_out HE.out (by simp; omega)] at HBX2
          have hd2 : decide ((0 : Int) ≤ kd) = true := decide_eq_true (by omega)
          have hd3 : decide (kd < (5 : Int)) = false := decide_eq_false (by omega)
          go_wp2_with fail
          go_roundw
          case rel => exact ⟨k + 1, by omega, by go_num, Lib.hid (HB.out.alloc hbs _), HBX2, Lib.hid (HR0.out.alloc _)⟩
          case measure => simp [intOf]; omega
    · have hd1 : decide ((k : Int) < es.length) = false := decide_eq_false (by omega)
      have hk' : es.take k = es := List.take_of_length_le (by omega)
      have hv : cntA es = #[.int .i64 n0, .int .i64 n1, .int .i64 n2, .int .i64 n3, .int .i64 n4] := by unfold cntA; rw [← HN0.out, ← HN1.out, ← HN2.out, ← HN3.out, ← HN4.out, hk']
      have HV := Lib.hid hv
      obtain ⟨lr, cr, fr⟩ := HR0.out.facts
      clear hk' hv
      go_wp2_with fail
      exact bodyPost_ret (v := .agg #[.int .i64 n0, .int .i64 n1, .int .i64 n2, .int .i64 n3, .int .i64 n4]) (by simp [results, Try.results38, go_sem, cr]) rfl ⟨by rw [HV.out], ((((HB.out.setCell (p := ⟨w.heap.size, 0, none⟩) (Nat.le_refl _) _).setCell (p := ⟨w.heap.size, 1, none⟩) (Nat.le_refl _) _).setCell (p := ⟨w.heap.size, 2, none⟩) (Nat.le_refl _) _).setCell (p := ⟨w.heap.size, 3, none⟩) (Nat.le_refl _) _).setCell (p := ⟨w.heap.size, 4, none⟩) (Nat.le_refl _) _⟩
/-- Was nothing sent twice? -/
def onceL : (Int → Bool) → List Ev → Bool
  | _, [] => true
  | S, e :: r => if e.kind = 1 then (if S e.id = true then false else onceL (fun i => if i = e.id then true else S i) r) else onceL S r
def il (i : Int) : Lit := .int .i64 i
theorem il_ne {i j : Int} (h : i ≠ j) : il i ≠ il j := by
  intro e
  apply h
  unfold il at e
  injection e
theorem lawI : Keyed Try.prog 3 := int_keyed Try.underlying3
theorem zeroU (w : World) : (zeroValue 81).run Try.prog w = .ok (.agg #[]) w := by kernel_rfl
def TellsS (D : DataW Unit) (S : Int → Bool) : Prop := ∀ i, Maps.has D (il i) = S i
theorem TellsS.put {D : DataW Unit} {S : Int → Bool} (h : TellsS D S) (hm : IsMap D) {i : Int} (hk : WideAt.IsKeyLit (il i)) (d : DataW Unit) : TellsS (D.put (il i) d) (fun j => if j = i then true else S j) := by
  intro j
  by_cases e : j = i
  · subst e
    rw [has_put_same hm hk]
    simp
  · rw [has_put_other (il_ne e)]
    simpa [e] using h j
set_option maxHeartbeats 2000000 in
theorem once_at (es : List Ev) (a : Option Addr) (cap : Nat) (w : World) (hr : Rd w a es) (hl : es.length < 1000000) (hok : ∀ e, e ∈ es → EvOk e) :
    Calls Try.prog 39 #[.slice a es.length cap] w fun e w' => e = .returned (.bool (onceL (fun _ => false) es)) ∧ Below w.heap.size w w' := by
  have hmm := @run_makeMap Try.prog
  have HOT := Lib.hid hok
  have HM1 : Hid (∃ D : DataW Unit, (w.alloc (.map #[] 0)).ownsMap Try.prog 3 unitElem w.heap.size 0 D ∧ TellsS D (fun _ => false)) := Lib.hid ⟨_, World.ownsMap_made _ _ _ _, fun s => rfl⟩
  have HB1 : Hid (Below w.heap.size w (w.alloc (.map #[] 0))) := Lib.hid ((Below.refl _ _).alloc (Nat.le_refl _) _)
  obtain ⟨b, off, ha, hc⟩ := (hr.later ((Below.refl _ _).alloc (Nat.le_refl _) (.map #[] 0))).row
  have HA := Lib.hid ha
  have HC := Lib.hid hc
  clear hok hr ha hc
  go_enter Try.func39, Try.ntmps39
  go_wp2_with fail
  go_loopw [11] (fun vk wx => ∃ (k : Nat) (S : Int → Bool), k ≤ es.length ∧ vk = .int .i64 k ∧ Hid (∃ D : DataW Unit, wx.ownsMap Try.prog 3 unitElem w.heap.size k D ∧ TellsS D S) ∧ Hid (Below w.heap.size w wx) ∧ Hid (RdB wx b off es) ∧ Hid (onceL (fun _ => false) es = onceL S (es.drop k))) (fun vk _ => es.length - (intOf vk).toNat)
  case atStart => exact ⟨0, fun _ => false, by omega, rfl, HM1, HB1, HC, Lib.hid rfl⟩
  case round =>
    obtain ⟨k, S, hk, rfl, HM, HB, HCR, HG⟩ := hrel
    clear HM1 HB1 HC
    have hbs := HB.out.size
    by_cases hlt : k < es.length
    · have hd1 : decide ((k : Int) < es.length) = true := decide_eq_true (by omega)
      have ha := HA.out (by omega)
      subst ha
      obtain ⟨⟨kd, tm, id, ho, pa, pr, la⟩, he⟩ : ∃ e, es[k]? = some e := ⟨_, List.getElem?_eq_getElem hlt⟩
      obtain ⟨c0, c1, c2, c3, c4, c5, c6⟩ := HCR.out.at he
      simp only at c0 c1 c2 c3 c4 c5 c6
      have hok := HOT.out _ (List.mem_of_getElem? he)
      have hkey := keyOf_int_mk (P := Try.prog) Try.underlying3 (WalkArith.wf_i64 (show In64 id from hok.2.2.1))
      have hgd := HG.out
      rw [drop_at he] at hgd
      obtain ⟨D, hown, htl⟩ := HM.out
      have e1 := htl id
      have HTL := Lib.hid htl
      clear he hok htl HM HG
      by_cases hkd : kd = 1
      · subst hkd
        cases hS : S id with
        | true =>
          rw [hS] at e1
          have e1 := Lib.hid e1
          have HG2 : Hid (onceL (fun _ => false) es = false) := Lib.hid (by rw [hgd, onceL, if_pos rfl, if_pos hS])
          clear hgd hS
          go_wp2_with (first
            | (at_lookup; refine wpList_lookup_own_unit _ rfl _ _ 80 rfl 3 81 lawI Try.underlying80 (zeroU _) w.heap.size _ D rfl (hown.alloc _) _ _ rfl hkey ?_; rw [show Maps.has D (Lit.int .i64 id) = true from e1.out])
            | go_in)
          exact bodyPost_ret (v := .bool false) (by simp [results, Try.results39, go_sem]) rfl ⟨by rw [HG2.out], (HB.out.alloc hbs _).alloc (by simp; omega) _⟩
        | false =>
          rw [hS] at e1
          have e1 := Lib.hid e1
          have HG2 : Hid (onceL (fun _ => false) es = onceL (fun i => if i = id then true else S i) (es.drop (k + 1))) := Lib.hid (by rw [hgd, onceL, if_pos rfl, if_neg (by rw [hS]; decide)])
          clear hgd hS
          go_wp2_with (first
            | (at_lookup; refine wpList_lookup_own_unit _ rfl _ _ 80 rfl 3 81 lawI Try.underlying80 (zeroU _) w.heap.size _ D rfl (hown.alloc _) _ _ rfl hkey ?_; rw [show Maps.has D (Lit.int .i64 id) = false from e1.out])
            | (at_mapUpdate; refine wpList_mapUpdate_own _ rfl _ _ _ 80 rfl 3 81 lawI Try.underlying80 _ w.heap.size _ D rfl ((hown.alloc _).alloc _) (by unfold maxLen; omega) _ _ _ rfl rfl hkey _ [] unitElem_mk ?_; intro w2 hown2 hgrow2)
            | go_in)
          have hB2 : Below w.heap.size w w2 := ((HB.out.alloc hbs _).alloc (by simp; omega) _).grown hgrow2 (by simp; omega) (fun x hx => by cases hx; exact Nat.le_refl _)
          have HB2 := Lib.hid hB2
          have HC2 := Lib.hid ((HCR.out.later (((Below.refl _ _).alloc (Nat.le_refl _) _).alloc (by simp) _)).turned ((hown.alloc _).alloc _) hgrow2)
          have HM2 : Hid (∃ D : DataW Unit, w2.ownsMap Try.prog 3 unitElem w.heap.size (k + 1) D ∧ TellsS D (fun i => if i = id then true else S i)) := Lib.hid ⟨_, hown2, HTL.out.put hown.isMap (lawI.key hkey) _⟩
          go_roundw
          case rel => exact ⟨k + 1, _, by omega, by go_num, HM2, HB2, HC2, HG2⟩
          case measure => simp [intOf]; omega
      · have HG2 : Hid (onceL (fun _ => false) es = onceL S (es.drop (k + 1))) := Lib.hid (by rw [hgd, onceL, if_neg hkd])
        have hd2 : (kd == 1) = false := by simpa using hkd
        have HM2 : Hid (∃ D : DataW Unit, (wr.alloc (.cells #[.int .i64 kd, .int .i64 tm, .int .i64 id, .string ho, .string pa, .int .i64 pr, .int .i64 la] 58)).ownsMap Try.prog 3 unitElem w.heap.size (k + 1) D ∧ TellsS D S) := Lib.hid ⟨_, (hown.alloc _).mono (by omega), HTL.out⟩
        clear hgd e1
        go_wp2_with fail
        go_roundw
        case rel => exact ⟨k + 1, S, by omega, by go_num, HM2, Lib.hid (HB.out.alloc hbs _), Lib.hid (HCR.out.later ((Below.refl _ _).alloc (Nat.le_refl _) _)), HG2⟩
        case measure => simp [intOf]; omega
    · have hd1 : decide ((k : Int) < es.length) = false := decide_eq_false (by omega)
      have HG2 : Hid (onceL (fun _ => false) es = true) := Lib.hid (by rw [HG.out, List.drop_eq_nil_of_le (by omega), onceL])
      go_wp2_with fail
      exact bodyPost_ret (v := .bool true) (by simp [results, Try.results39, go_sem]) rfl ⟨by rw [HG2.out], HB.out⟩
end Go.Proofs.Ytelakgbpfnlpiaa
