/- Package audit: what was sent. -/
import Derived.Test.YtelakgbpfnlpiaaAud
namespace Go.Proofs.Ytelakgbpfnlpiaa
open Go.RowKit Go.Maps Go.WideMaps

theorem own_cap {w : World} {base : Nat} {e : TypeId} {size n cap : Nat} {a : Option Addr} {xs : List Value} (h : w.ownsRow base e size (.slice a n cap) n xs) : n ≤ cap := by
  rcases h.2 with ⟨e, h0⟩ | ⟨g, c, cur, e, _, _, hnc, _⟩
  · omega
  · injection e with _ _ e3
    rw [e3]
    exact hnc
theorem went_yes {e : Ev} (h : e.kind = 1 ∨ e.kind = 2) : wentE e = true := by
  unfold wentE
  rcases h with h | h <;> simp [h]
theorem went_no {e : Ev} (h1 : e.kind ≠ 1) (h2 : e.kind ≠ 2) : wentE e = false := by
  unfold wentE
  simp [h1, h2]
theorem sent_yes {es : List Ev} {k : Nat} {e : Ev} (he : es[k]? = some e) (h : wentE e = true) : (es.take (k + 1)).filter wentE = (es.take k).filter wentE ++ [e] := by
  rw [List.take_add_one, he]
  simp [h]
theorem sent_no {es : List Ev} {k : Nat} {e : Ev} (he : es[k]? = some e) (h : wentE e = false) : (es.take (k + 1)).filter wentE = (es.take k).filter wentE := by
  rw [List.take_add_one, he]
  simp [h]
theorem sent_len (es : List Ev) (k : Nat) : ((es.take k).filter wentE).length ≤ k := by
  have h1 := List.length_filter_le wentE (es.take k)
  rw [List.length_take] at h1
  omega

set_option maxHeartbeats 1000000 in
theorem trans_at (es : List Ev) (a : Option Addr) (cap : Nat) (w : World) (hr : Rd w a es) (hl : es.length < 1000000) :
    Calls Try.prog 51 #[.slice a es.length cap] w fun e w' => ∃ a' cap', e = .returned (.slice a' (es.filter wentE).length cap') ∧ Rd w' a' (es.filter wentE) ∧ (es.filter wentE).length ≤ cap' ∧ Below w.heap.size w w' := by
  obtain ⟨i0, hi0, hz0, hz1, hz2⟩ := info_parts infoEv
  obtain ⟨b, off, ha, hc⟩ := hr.at
  have HA := Lib.hid ha
  have HC := Lib.hid hc
  clear ha hc hr
  go_enter Try.func51, Try.ntmps51
  go_wp2_with fail
  go_loopw [3, 8] (fun vs vk wx => ∃ (k : Nat) (a' : Option Addr) (cap' : Nat), k ≤ es.length ∧ vk = .int .i64 k ∧ vs = .slice a' ((es.take k).filter wentE).length cap' ∧ Hid (wx.ownsRow w.heap.size 58 7 (.slice a' ((es.take k).filter wentE).length cap') ((es.take k).filter wentE).length (flatE ((es.take k).filter wentE))) ∧ Hid (Below w.heap.size w wx)) (fun _ vk _ => es.length - (intOf vk).toNat)
  case atStart => exact ⟨0, none, 0, by omega, rfl, rfl, Lib.hid (World.ownsRow_nil _ _ _ _), Lib.hid (Below.refl _ _)⟩
  case round =>
    obtain ⟨k, a', cap', hk, rfl, rfl, HR, HB⟩ := hrel
    by_cases hlt : k < es.length
    · have hd1 : decide ((k : Int) < es.length) = true := decide_eq_true (by omega)
      have ha := HA.out (by omega)
      subst ha
      obtain ⟨e, he⟩ : ∃ e, es[k]? = some e := ⟨_, List.getElem?_eq_getElem hlt⟩
      obtain ⟨e0, e1, e2, e3, e4, e5, e6⟩ := HC.out k e he
      have c0 := (HB.out.cell (World.block_lt_of_cell? _ _ e0)).trans e0
      have c1 := (HB.out.cell (World.block_lt_of_cell? _ _ e1)).trans e1
      have c2 := (HB.out.cell (World.block_lt_of_cell? _ _ e2)).trans e2
      have c3 := (HB.out.cell (World.block_lt_of_cell? _ _ e3)).trans e3
      have c4 := (HB.out.cell (World.block_lt_of_cell? _ _ e4)).trans e4
      have c5 := (HB.out.cell (World.block_lt_of_cell? _ _ e5)).trans e5
      have c6 := (HB.out.cell (World.block_lt_of_cell? _ _ e6)).trans e6
      have hsl := sent_len es k
      have HE := Lib.hid he
      clear e0 e1 e2 e3 e4 e5 e6 he
      have hbs := HB.out.size
      by_cases h12 : e.kind = 1 ∨ e.kind = 2
      · have HS := Lib.hid (sent_yes HE.out (went_yes h12))
        generalize hS : (es.take k).filter wentE = S at *
        clear hS
        have hrow := HR.out
        rcases h12 with h1 | h1
        · have hd2 : (e.kind == 1) = true := by simpa using h1
          clear h1
          go_wp2_with (first
            | (at_builtin; refine wpList_append_own_at _ rfl _ _ 52 rfl w.heap.size 58 i0 (.agg #[.int .i64 0, .int .i64 0, .int .i64 0, .string ByteArray.empty, .string ByteArray.empty, .int .i64 0, .int .i64 0]) 7 72 Try.underlying52 hi0 hz0 hz1 hz2 rfl (by decide) (.slice a' S.length cap') _ _ rfl ((hrow.alloc (.cells (evL e).toArray 58)).alloc (.cells (evL e).toArray 58)) ⟨wr.heap.size + 1, 0, none⟩ 1 1 (evL e) rfl rfl (by have h7 := cell_seven_new (wr.alloc (.cells (evL e).toArray 58)) (evL e) 58; rwa [World.size_alloc] at h7) (evL_one e) (by unfold maxLen; omega) (by omega) (by simp; omega) ?_
               intro v' w1 hown' hgrow hnil hloc
               obtain ⟨a1, cap1, rfl⟩ := own_slice hown')
            | go_in)
          have hbx : Below w.heap.size w ((wr.alloc (.cells (evL e).toArray 58)).alloc (.cells (evL e).toArray 58)) := (HB.out.alloc hbs _).alloc (by simp; omega) _
          have HB2 := Lib.hid (hbx.grown hgrow (by simp; omega) (fun x hx => ((hrow.alloc (.cells (evL e).toArray 58)).alloc (.cells (evL e).toArray 58)).lt x hx |>.1))
          have HR2 := Lib.hid (show w1.ownsRow w.heap.size 58 7 (.slice a1 ((es.take (k + 1)).filter wentE).length cap1) ((es.take (k + 1)).filter wentE).length (flatE ((es.take (k + 1)).filter wentE)) by
            rw [HS.out, flatE_append, List.length_append]
            simpa [flatE] using hown')
          go_roundw
          case rel => exact ⟨k + 1, a1, cap1, by omega, by go_num, by rw [HS.out]; simp, HR2, HB2⟩
          case measure => simp [intOf]; omega
        · have hd2 : (e.kind == 1) = false := by simp; omega
          have hd3 : (e.kind == 2) = true := by simpa using h1
          clear h1
          go_wp2_with (first
            | (at_builtin; refine wpList_append_own_at _ rfl _ _ 52 rfl w.heap.size 58 i0 (.agg #[.int .i64 0, .int .i64 0, .int .i64 0, .string ByteArray.empty, .string ByteArray.empty, .int .i64 0, .int .i64 0]) 7 72 Try.underlying52 hi0 hz0 hz1 hz2 rfl (by decide) (.slice a' S.length cap') _ _ rfl ((hrow.alloc (.cells (evL e).toArray 58)).alloc (.cells (evL e).toArray 58)) ⟨wr.heap.size + 1, 0, none⟩ 1 1 (evL e) rfl rfl (by have h7 := cell_seven_new (wr.alloc (.cells (evL e).toArray 58)) (evL e) 58; rwa [World.size_alloc] at h7) (evL_one e) (by unfold maxLen; omega) (by omega) (by simp; omega) ?_
               intro v' w1 hown' hgrow hnil hloc
               obtain ⟨a1, cap1, rfl⟩ := own_slice hown')
            | go_in)
          have hbx : Below w.heap.size w ((wr.alloc (.cells (evL e).toArray 58)).alloc (.cells (evL e).toArray 58)) := (HB.out.alloc hbs _).alloc (by simp; omega) _
          have HB2 := Lib.hid (hbx.grown hgrow (by simp; omega) (fun x hx => ((hrow.alloc (.cells (evL e).toArray 58)).alloc (.cells (evL e).toArray 58)).lt x hx |>.1))
          have HR2 := Lib.hid (show w1.ownsRow w.heap.size 58 7 (.slice a1 ((es.take (k + 1)).filter wentE).length cap1) ((es.take (k + 1)).filter wentE).length (flatE ((es.take (k + 1)).filter wentE)) by
            rw [HS.out, flatE_append, List.length_append]
            simpa [flatE] using hown')
          go_roundw
          case rel => exact ⟨k + 1, a1, cap1, by omega, by go_num, by rw [HS.out]; simp, HR2, HB2⟩
          case measure => simp [intOf]; omega
      · have HS := Lib.hid (sent_no HE.out (went_no (fun h => h12 (Or.inl h)) (fun h => h12 (Or.inr h))))
        have hd2 : (e.kind == 1) = false := by simp; omega
        have hd3 : (e.kind == 2) = false := by simp; omega
        go_wp2_with fail
        go_roundw
        case rel => exact ⟨k + 1, a', cap', by omega, by go_num, by rw [HS.out], by rw [HS.out]; exact Lib.hid (HR.out.alloc _), Lib.hid (HB.out.alloc hbs _)⟩
        case measure => simp [intOf]; omega
    · have hd1 : decide ((k : Int) < es.length) = false := decide_eq_false (by omega)
      have hk' : es.take k = es := List.take_of_length_le (by omega)
      rw [hk'] at HR
      rw [hk']
      clear hk'
      go_wp2_with fail
      exact bodyPost_ret (v := .slice a' (es.filter wentE).length cap') (by simp [results, Try.results51, go_sem]) rfl ⟨a', cap', rfl, rd_of_own HR.out, own_cap HR.out, HB.out⟩
end Go.Proofs.Ytelakgbpfnlpiaa
