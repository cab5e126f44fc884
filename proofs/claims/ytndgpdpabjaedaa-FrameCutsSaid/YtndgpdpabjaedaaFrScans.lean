/- The law on reading any bytes, walked. -/
import Derived.Test.YtndgpdpabjaedaaFrOpen
namespace Go.Proofs.Ytndgpdpabjaedaa
open Go.RowKit
set_option linter.unusedSimpArgs false

theorem text_nil {P : Program} {w : World} (a : Option Addr) (src e dst : TypeId) (hs : P.underlying src = some (.slice e)) (he : P.underlying e = some (.int .u8)) (hd : P.underlying dst = some .string) (cap : Nat) :
    (convert src dst (.slice a 0 cap)).run P w = .ok (.string (strL [])) w := by
  cases a with
  | none => exact run_convert_bytes_nil w src e hs he _ _ dst hd
  | some x =>
    rw [run_convert_bytes_string w src dst e _ 0 cap hs he hd, run_bytesToString w x 0 cap [] (run_loadCells_list (P := P) w x [] (fun j v hj => by simp at hj))]
    rfl
theorem OwnB.text {P : Program} {w : World} {B : Nat} {a : Option Addr} {cap : Nat} {l : List Int} (h : OwnB w B a cap l) (src e dst : TypeId) (hs : P.underlying src = some (.slice e)) (he : P.underlying e = some (.int .u8)) (hd : P.underlying dst = some .string) (n : Nat) (hn : l.length = n) :
    (convert src dst (.slice a n cap)).run P w = .ok (.string (strL l)) w := by
  subst hn
  refine h.rd.text src e dst hs he hd (fun h0 => ?_) cap
  obtain ⟨h1, _, _⟩ | ⟨g, h1, _⟩ := h.form
  · exact Or.inl h1
  · exact Or.inr ⟨g, 0, h1⟩
theorem scanned_rest {l : List Int} {rs : List Rc} {n : Nat} (h : Scanned l rs n) : Scanned (l.drop n) [] 0 := ⟨by simp, rfl, by simp [flatR], by simpa using h.2.2.2⟩
theorem flat_take {rs : List Rc} {k : Nat} {r : Rc} (h : rs[k]? = some r) : flatR (rs.take k) ++ encR r = flatR (rs.take (k + 1)) := by
  rw [List.take_add_one, h]
  simp [flatR]
theorem flat_le (rs : List Rc) (k : Nat) : (flatR (rs.take k)).length ≤ (flatR rs).length := by
  have := congrArg List.length (show flatR rs = flatR (rs.take k) ++ flatR (rs.drop k) by unfold flatR; rw [← List.flatMap_append, List.take_append_drop])
  rw [this, List.length_append]
  omega

set_option maxRecDepth 100000 in
set_option maxHeartbeats 1000000 in
theorem frameScans_nil (a : Option Addr) (w : World) :
    Calls Try.prog 4 #[.slice a 0 0] w fun e w' => e = .returned (.bool true) ∧ Below w.heap.size w w' := by
  have hS : Scanned [] [] 0 := ⟨by simp, rfl, rfl, decR_nil⟩
  go_enter Try.func4, Try.ntmps4
  go_wp2_with fail
  refine (scan_as [] [] 0 0 hS rfl 0 _ _ _ rfl (Or.inl rfl) Byts.nil (by decide) (by decide) (Or.inl rfl)).mono ?_
  rintro e w1 ⟨a1, c1, rfl, hr1, hk1, hb1⟩
  go_wp2_with fail
  go_loop [5, 6] (fun v5 v => v5 = .slice (some ⟨w1.heap.size, 0, none⟩) 0 0 ∧ v = .int .i64 0) (fun _ _ => 0)
  case atStart => exact ⟨rfl, rfl⟩
  case round =>
    obtain ⟨rfl, rfl⟩ := hrel
    go_wp2_with fail
    have hT := fun (w : World) (a : Option Addr) => text_nil (P := Try.prog) (w := w) a 27 5 9 Try.underlying27 Try.underlying5 Try.underlying9 0
    have B1 := hb1.alloc hb1.size (.cells #[] 5)
    go_cut [69] (fun v wx => v = .bool false ∧ Hid (Below w.heap.size w wx))
    case first =>
      refine wp_region_last 18 (fun w' => Below w.heap.size w w') (by kernel_rfl) (B1.drew) (fun hHeld hClosed => ?_)
      refine wpAnyL_take (i := 0) (v := ?_) rfl (by kernel_rfl) (by kernel_rfl) (by kernel_rfl) (by kernel_rfl) (fun _ _ _ h => h) (by kernel_rfl) hClosed (Or.inl ⟨by rfl, ?_⟩) hHeld (fun hClosed => ?_)
      rotate_left
      · intro wv hSw; go_simp; all_goals (with_reducible rfl)
      (try simp only [List.getElem_toArray, List.getElem_cons_zero, put_at, List.set])
      refine wpAnyL_take (i := 1) (v := ?_) rfl (by kernel_rfl) (by kernel_rfl) (by kernel_rfl) (by kernel_rfl) (fun _ _ _ h => h) (by kernel_rfl) hClosed (Or.inl ⟨by rfl, ?_⟩) hHeld (fun hClosed => ?_)
      rotate_left
      · intro wv hSw; go_simp; all_goals (with_reducible rfl)
      (try simp only [List.getElem_toArray, List.getElem_cons_succ, List.getElem_cons_zero, put_at, List.set])
      refine wpAnyL_take (i := 2) (v := ?_) rfl (by kernel_rfl) (by kernel_rfl) (by kernel_rfl) (by kernel_rfl) (fun _ _ _ h => h) (by kernel_rfl) hClosed (Or.inl ⟨by rfl, ?_⟩) hHeld (fun hClosed => ?_)
      rotate_left
      · intro wv hSw; go_simp; all_goals (with_reducible rfl)
      (try simp only [List.getElem_toArray, List.getElem_cons_succ, List.getElem_cons_zero, put_at, List.set])
      refine wpAnyL_take (i := 3) (v := ?_) rfl (by kernel_rfl) (by kernel_rfl) (by kernel_rfl) (by kernel_rfl) (fun _ _ _ h => h) (by kernel_rfl) hClosed (Or.inl ⟨by rfl, ?_⟩) hHeld (fun hClosed => ?_)
      rotate_left
      · intro wv hSw; go_simp; all_goals (with_reducible rfl)
      (try simp only [List.getElem_toArray, List.getElem_cons_succ, List.getElem_cons_zero, put_at, List.set])
      refine wpAnyL_take (i := 4) (v := ?_) rfl (by kernel_rfl) (by kernel_rfl) (by kernel_rfl) (by kernel_rfl) (fun _ _ _ h => h) (by kernel_rfl) hClosed (Or.inl ⟨by rfl, ?_⟩) hHeld (fun hClosed => ?_)
      rotate_left
      · intro wv hSw; go_simp; all_goals (with_reducible rfl)
      (try simp only [List.getElem_toArray, List.getElem_cons_succ, List.getElem_cons_zero, put_at, List.set])
      refine wpAnyL_take (i := 5) (v := ?_) rfl (by kernel_rfl) (by kernel_rfl) (by kernel_rfl) (by kernel_rfl) (fun _ _ _ h => h) (by kernel_rfl) hClosed (Or.inl ⟨by rfl, ?_⟩) hHeld (fun hClosed => ?_)
      rotate_left
      · intro wv hSw; go_simp; all_goals (with_reducible rfl)
      (try simp only [List.getElem_toArray, List.getElem_cons_succ, List.getElem_cons_zero, put_at, List.set])
      refine wpAnyL_take (i := 6) (v := ?_) rfl (by kernel_rfl) (by kernel_rfl) (by kernel_rfl) (by kernel_rfl) (fun _ _ _ h => h) (by kernel_rfl) hClosed (Or.inl ⟨by rfl, ?_⟩) hHeld (fun hClosed => ?_)
      rotate_left
      · intro wv hSw; go_simp; all_goals (with_reducible rfl)
      (try simp only [List.getElem_toArray, List.getElem_cons_succ, List.getElem_cons_zero, put_at, List.set])
      refine wpAnyL_take (i := 7) (v := ?_) rfl (by kernel_rfl) (by kernel_rfl) (by kernel_rfl) (by kernel_rfl) (fun _ _ _ h => h) (by kernel_rfl) hClosed (Or.inl ⟨by rfl, ?_⟩) hHeld (fun hClosed => ?_)
      rotate_left
      · intro wv hSw; go_simp; all_goals (with_reducible rfl)
      (try simp only [List.getElem_toArray, List.getElem_cons_succ, List.getElem_cons_zero, put_at, List.set])
      refine wpAnyL_take (i := 8) (v := ?_) rfl (by kernel_rfl) (by kernel_rfl) (by kernel_rfl) (by kernel_rfl) (fun _ _ _ h => h) (by kernel_rfl) hClosed (Or.inl ⟨by rfl, ?_⟩) hHeld (fun hClosed => ?_)
      rotate_left
      · intro wv hSw; go_simp; all_goals (with_reducible rfl)
      (try simp only [List.getElem_toArray, List.getElem_cons_succ, List.getElem_cons_zero, put_at, List.set])
      refine wpAnyL_take (i := 9) (v := ?_) rfl (by kernel_rfl) (by kernel_rfl) (by kernel_rfl) (by kernel_rfl) (fun _ _ _ h => h) (by kernel_rfl) hClosed (Or.inl ⟨by rfl, ?_⟩) hHeld (fun hClosed => ?_)
      rotate_left
      · intro wv hSw; go_simp; all_goals (with_reducible rfl)
      (try simp only [List.getElem_toArray, List.getElem_cons_succ, List.getElem_cons_zero, put_at, List.set])
      refine wpAnyL_take (i := 10) (v := ?_) rfl (by kernel_rfl) (by kernel_rfl) (by kernel_rfl) (by kernel_rfl) (fun _ _ _ h => h) (by kernel_rfl) hClosed (Or.inl ⟨by rfl, ?_⟩) hHeld (fun hClosed => ?_)
      rotate_left
      · intro wv hSw; go_simp; all_goals (with_reducible rfl)
      (try simp only [List.getElem_toArray, List.getElem_cons_succ, List.getElem_cons_zero, put_at, List.set])
      refine wpAnyL_take (i := 11) (v := ?_) rfl (by kernel_rfl) (by kernel_rfl) (by kernel_rfl) (by kernel_rfl) (fun _ _ _ h => h) (by kernel_rfl) hClosed (Or.inl ⟨by rfl, ?_⟩) hHeld (fun hClosed => ?_)
      rotate_left
      · intro wv hSw; go_simp; all_goals (with_reducible rfl)
      (try simp only [List.getElem_toArray, List.getElem_cons_succ, List.getElem_cons_zero, put_at, List.set])
      refine wpAnyL_take (i := 12) (v := ?_) rfl (by kernel_rfl) (by kernel_rfl) (by kernel_rfl) (by kernel_rfl) (fun _ _ _ h => h) (by kernel_rfl) hClosed (Or.inl ⟨by rfl, ?_⟩) hHeld (fun hClosed => ?_)
      rotate_left
      · intro wv hSw; go_simp; all_goals (with_reducible rfl)
      (try simp only [List.getElem_toArray, List.getElem_cons_succ, List.getElem_cons_zero, put_at, List.set])
      refine wpAnyL_take (i := 13) (v := ?_) rfl (by kernel_rfl) (by kernel_rfl) (by kernel_rfl) (by kernel_rfl) (fun _ _ _ h => h) (by kernel_rfl) hClosed (Or.inl ⟨by rfl, ?_⟩) hHeld (fun hClosed => ?_)
      rotate_left
      · intro wv hSw; go_simp; all_goals (with_reducible rfl)
      (try simp only [List.getElem_toArray, List.getElem_cons_succ, List.getElem_cons_zero, put_at, List.set])
      refine wpAnyL_take (i := 14) (v := ?_) rfl (by kernel_rfl) (by kernel_rfl) (by kernel_rfl) (by kernel_rfl) (fun _ _ _ h => h) (by kernel_rfl) hClosed (Or.inl ⟨by rfl, ?_⟩) hHeld (fun hClosed => ?_)
      rotate_left
      · intro wv hSw; have h1 := hT wv a; have h2 := hT wv (some ⟨w1.heap.size, 0, none⟩); go_simp; all_goals (with_reducible rfl)
      (try simp only [List.getElem_toArray, List.getElem_cons_succ, List.getElem_cons_zero, put_at, List.set])
      refine wpAnyL_take (i := 15) (v := ?_) rfl (by kernel_rfl) (by kernel_rfl) (by kernel_rfl) (by kernel_rfl) (fun _ _ _ h => h) (by kernel_rfl) hClosed (Or.inl ⟨by rfl, ?_⟩) hHeld (fun hClosed => ?_)
      rotate_left
      · intro wv hSw; go_simp; all_goals (with_reducible rfl)
      (try simp only [List.getElem_toArray, List.getElem_cons_succ, List.getElem_cons_zero, put_at, List.set])
      refine wpAnyL_take (i := 16) (v := ?_) rfl (by kernel_rfl) (by kernel_rfl) (by kernel_rfl) (by kernel_rfl) (fun _ _ _ h => h) (by kernel_rfl) hClosed (Or.inl ⟨by rfl, ?_⟩) hHeld (fun hClosed => ?_)
      rotate_left
      · intro wv hSw; have h1 := hT wv a; have h2 := hT wv (some ⟨w1.heap.size, 0, none⟩); go_simp; all_goals (with_reducible rfl)
      (try simp only [List.getElem_toArray, List.getElem_cons_succ, List.getElem_cons_zero, put_at, List.set])
      refine wpAnyL_take (i := 17) (v := ?_) rfl (by kernel_rfl) (by kernel_rfl) (by kernel_rfl) (by kernel_rfl) (fun _ _ _ h => h) (by kernel_rfl) hClosed (Or.inl ⟨by rfl, ?_⟩) hHeld (fun hClosed => ?_)
      rotate_left
      · intro wv hSw; go_simp; all_goals (with_reducible rfl)
      (try simp only [List.getElem_toArray, List.getElem_cons_succ, List.getElem_cons_zero, put_at, List.set])
      refine wpAnyL_last rfl (by kernel_rfl) (by kernel_rfl) (fun KK hK => ?_)
      go_simp
      refine hK.out _ _ ?_
      (try simp only [put_at, List.set])
      go_wp2_with fail
      go_meet
      exact ⟨rfl, Lib.hid hHeld⟩
    case rest =>
    clear B1
    obtain ⟨rfl, HB⟩ := hcut
    go_wp2_with fail
    refine (scan_as [] [] 0 0 hS rfl 0 _ _ _ rfl (Or.inl rfl) Byts.nil (by decide) (by decide) (Or.inl rfl)).mono ?_
    rintro e w2 ⟨a2, c2, rfl, hr2, hk2, hb2⟩
    have B2 := HB.out.trans (hb2.mono HB.out.size)
    go_wp2_with fail
    refine (awake14 _).mono ?_
    rintro e w3 ⟨rfl, hb3⟩
    go_wp2_with fail
    go_ret
    exact ⟨rfl, B2.trans (hb3.mono B2.size)⟩

set_option maxRecDepth 100000 in
set_option maxHeartbeats 2000000 in
theorem frameScans_main (l : List Int) (L b off len cap : Nat) (w : World) (hl : l.length = L) (hr : RdB w (some ⟨b, off, none⟩) l) (hb : Byts l) (hlc : L ≤ cap) (hcm : cap ≤ 9223372036854775807) (hL : L ≤ 4000) (hlen : len = L ∨ (4000 < len ∧ L = 4000)) (hle : len ≤ 9223372036854775807) :
    Calls Try.prog 4 #[.slice (some ⟨b, off, none⟩) len cap] w fun e w' => e = .returned (.bool true) ∧ Below w.heap.size w w' := by
  have HL := Lib.hid hl
  have HRD := Lib.hid hr
  have HBY := Lib.hid hb
  clear hl hr hb
  go_enter Try.func4, Try.ntmps4
  go_upto_if 11 with fail
  go_cut [0] (fun v wx => v = .slice (some ⟨b, off, none⟩) L cap ∧ w = wx)
  case first =>
    rcases hlen with rfl | ⟨h4, rfl⟩
    · have hd : decide (4000 < (len : Int)) = false := decide_eq_false (by omega)
      go_wp2_with fail
      go_meet
      exact ⟨rfl, rfl⟩
    · have hd : decide (4000 < (len : Int)) = true := decide_eq_true (by omega)
      have hc4 : (4000 : Int) ≤ cap := by omega
      go_wp2_with fail
      go_meet
      exact ⟨rfl, rfl⟩
  case rest =>
  obtain ⟨rfl, rfl⟩ := hcut
  clear hlen hle
  go_wp2_with fail
  refine (scan_at l L _ _ _ HL.out HRD.out HBY.out hlc (by omega) (Or.inr ⟨_, _, rfl⟩)).mono ?_
  rintro e w1 ⟨rs, n, a1, c1, rfl, hS, ho1, hn1, hrs1, hb1⟩
  have HS := Lib.hid hS
  obtain ⟨hs1, hs2, hs3, _⟩ := id hS
  have HSD := Lib.hid hs1
  have HFL := Lib.hid hs2
  have H3 := Lib.hid hs3
  have HA : Hid (∃ b3 o3, (0 < rs.length → a1 = some ⟨b3, o3, none⟩) ∧ ∀ i r, rs[i]? = some r → ∀ j v, (recL r)[j]? = some v → w1.cell? ⟨b3, o3 + i * 6 + j, none⟩ = some v) := Lib.hid (by
    rcases ho1.rd with h | ⟨b3, o3, ha, hc⟩
    · exact ⟨0, 0, fun h0 => by rw [h] at h0; simp at h0, fun i r hi => by rw [h] at hi; simp at hi⟩
    · exact ⟨b3, o3, fun _ => ha, hc⟩)
  obtain ⟨b3, o3, ha3, hc3⟩ := HA.out
  have HA3 := Lib.hid ha3
  have HC3 := Lib.hid hc3
  clear hS hs1 hs2 hs3 HA ha3 hc3
  go_wp2_with fail
  go_loopw [5, 6] (fun va vk wx => ∃ (k : Nat) (a' : Option Addr) (c' m : Nat), k ≤ rs.length ∧ m ≤ n ∧ vk = .int .i64 k ∧ va = .slice a' m c' ∧ Hid (m = (flatR (rs.take k)).length) ∧ Hid (OwnB wx w1.heap.size a' c' (flatR (rs.take k))) ∧ Hid (Below w1.heap.size w1 wx)) (fun _ vk _ => rs.length - (intOf vk).toNat)
  case atStart => exact ⟨0, some ⟨w1.heap.size, 0, none⟩, 0, 0, by omega, by omega, rfl, rfl, Lib.hid rfl, Lib.hid (OwnB.lit (w := w1) [] (Nat.le_refl _) (by simp)), Lib.hid ((Below.refl _ _).alloc (Nat.le_refl _) _)⟩
  case round =>
    obtain ⟨k, a', c', m, hk, hm, rfl, rfl, HM, HO, HB⟩ := hrel
    by_cases hlt : k < rs.length
    · have hd1 : decide ((k : Int) < rs.length) = true := decide_eq_true (by omega)
      have ha := HA3.out (by omega)
      subst ha
      obtain ⟨r, hrk⟩ : ∃ r, rs[k]? = some r := ⟨_, List.getElem?_eq_getElem hlt⟩
      obtain ⟨hsd, hfit⟩ := HSD.out r (List.mem_of_getElem? hrk)
      have HRK := Lib.hid hrk
      have hcap := ho1.cap_le
      have hki : (0 : Int) ≤ (k : Int) := by omega
      have hkl : (k : Int) < (rs.length : Int) := by omega
      obtain ⟨E, hE⟩ : ∃ E, encR r = E := ⟨_, rfl⟩
      obtain ⟨q, hq⟩ : ∃ q, E.length = q := ⟨_, rfl⟩
      have HE := Lib.hid hE
      have HQ := Lib.hid hq
      obtain ⟨F, hF⟩ : ∃ F, flatR (rs.take (k + 1)) = F := ⟨_, rfl⟩
      obtain ⟨G, hG⟩ : ∃ G, flatR (rs.take k) = G := ⟨_, rfl⟩
      have HF3 : Hid (G ++ E = F) := Lib.hid (by rw [← hG, ← hE, flat_take hrk, hF])
      have hFl : F.length = m + q := by rw [← HF3.out, List.length_append, ← hG, ← HM.out, hq]
      have hFn : m + q ≤ n := by rw [← hFl, ← hF, HFL.out]; exact flat_le _ _
      have hqp : 26 ≤ q := by rw [← hq, ← hE]; exact encR_ge r
      have HFL2 := Lib.hid hFl
      have HGL : Hid (G.length = m) := Lib.hid (by rw [← hG, HM.out])
      rw [hG] at HO
      have HF := Lib.hid hF
      clear hrk hE hq hF hG hFl HM
      go_wp2_with fail
      go_cut [37] (fun v wx => v = .bool false ∧ Hid (Below w1.heap.size w1 wx) ∧ Hid (OwnB wx w1.heap.size a' c' G))
      case first =>
        refine wp_region_last 11 (fun w' => Below wr.heap.size wr w') (by kernel_rfl) (Below.drew (Below.refl _ _)) (fun hHeld hClosed => ?_)
        refine wpAnyL_take (i := 0) (v := ?_) rfl (by kernel_rfl) (by kernel_rfl) (by kernel_rfl) (by kernel_rfl) (fun _ _ _ h => h) (by kernel_rfl) hClosed (Or.inl ⟨by rfl, ?_⟩) hHeld (fun hClosed => ?_)
        rotate_left
        · intro wv hSw; go_simp; all_goals (with_reducible rfl)
        (try simp only [List.getElem_toArray, List.getElem_cons_zero, put_at, List.set])
        refine wpAnyL_take (i := 1) (v := ?_) rfl (by kernel_rfl) (by kernel_rfl) (by kernel_rfl) (by kernel_rfl) (fun _ _ _ h => h) (by kernel_rfl) hClosed (Or.inl ⟨by rfl, ?_⟩) hHeld (fun hClosed => ?_)
        rotate_left
        · intro wv hSw; go_simp; all_goals (with_reducible rfl)
        (try simp only [List.getElem_toArray, List.getElem_cons_succ, List.getElem_cons_zero, put_at, List.set])
        refine wpAnyL_take (i := 2) (v := ?_) rfl (by kernel_rfl) (by kernel_rfl) (by kernel_rfl) (by kernel_rfl) (fun _ _ _ h => h) (by kernel_rfl) hClosed (Or.inl ⟨by rfl, ?_⟩) hHeld (fun hClosed => ?_)
        rotate_left
        · intro wv hSw; go_simp; all_goals (with_reducible rfl)
        (try simp only [List.getElem_toArray, List.getElem_cons_succ, List.getElem_cons_zero, put_at, List.set])
        refine wpAnyL_take (i := 3) (v := ?_) rfl (by kernel_rfl) (by kernel_rfl) (by kernel_rfl) (by kernel_rfl) (fun _ _ _ h => h) (by kernel_rfl) hClosed (Or.inl ⟨by rfl, ?_⟩) hHeld (fun hClosed => ?_)
        rotate_left
        · intro wv hSw; go_simp; all_goals (with_reducible rfl)
        (try simp only [List.getElem_toArray, List.getElem_cons_succ, List.getElem_cons_zero, put_at, List.set])
        refine wpAnyL_take (i := 4) (v := ?_) rfl (by kernel_rfl) (by kernel_rfl) (by kernel_rfl) (by kernel_rfl) (fun _ _ _ h => h) (by kernel_rfl) hClosed (Or.inl ⟨by rfl, ?_⟩) hHeld (fun hClosed => ?_)
        rotate_left
        · intro wv hSw; have hb' := HB.out.trans (hSw.mono HB.out.size); have cc := fun (j : Nat) (v : Value) (hv : (recL r)[j]? = some v) => (hb'.cell (World.block_lt_of_cell? _ _ (HC3.out k r HRK.out j v hv))).trans (HC3.out k r HRK.out j v hv); have e0 := cc 0 _ rfl; rw [Nat.add_zero] at e0; have e1 := cc 1 _ rfl; have e2 := cc 2 _ rfl; have e3 := cc 3 _ rfl; have e4 := cc 4 _ rfl; have e5 := cc 5 _ rfl; clear cc hb'; go_simp; all_goals (with_reducible rfl)
        (try simp only [List.getElem_toArray, List.getElem_cons_succ, List.getElem_cons_zero, put_at, List.set])
        refine wpAnyL_take (i := 5) (v := ?_) rfl (by kernel_rfl) (by kernel_rfl) (by kernel_rfl) (by kernel_rfl) (fun _ _ _ h => h) (by kernel_rfl) hClosed (Or.inl ⟨by rfl, ?_⟩) hHeld (fun hClosed => ?_)
        rotate_left
        · intro wv hSw; go_simp; all_goals (with_reducible rfl)
        (try simp only [List.getElem_toArray, List.getElem_cons_succ, List.getElem_cons_zero, put_at, List.set])
        refine wpAnyL_take (i := 6) (v := ?_) rfl (by kernel_rfl) (by kernel_rfl) (by kernel_rfl) (by kernel_rfl) (fun _ _ _ h => h) (by kernel_rfl) hClosed (Or.inl ⟨by rfl, ?_⟩) hHeld (fun hClosed => ?_)
        rotate_left
        · intro wv hSw; go_simp; all_goals (with_reducible rfl)
        (try simp only [List.getElem_toArray, List.getElem_cons_succ, List.getElem_cons_zero, put_at, List.set])
        refine wpAnyL_take (i := 7) (v := ?_) rfl (by kernel_rfl) (by kernel_rfl) (by kernel_rfl) (by kernel_rfl) (fun _ _ _ h => h) (by kernel_rfl) hClosed (Or.inl ⟨by rfl, ?_⟩) hHeld (fun hClosed => ?_)
        rotate_left
        · intro wv hSw; go_simp; all_goals (with_reducible rfl)
        (try simp only [List.getElem_toArray, List.getElem_cons_succ, List.getElem_cons_zero, put_at, List.set])
        refine wpAnyL_take (i := 8) (v := ?_) rfl (by kernel_rfl) (by kernel_rfl) (by kernel_rfl) (by kernel_rfl) (fun _ _ _ h => h) (by kernel_rfl) hClosed (Or.inl ⟨by rfl, ?_⟩) hHeld (fun hClosed => ?_)
        rotate_left
        · intro wv hSw; go_simp; all_goals (with_reducible rfl)
        (try simp only [List.getElem_toArray, List.getElem_cons_succ, List.getElem_cons_zero, put_at, List.set])
        refine wpAnyL_take (i := 9) (v := ?_) rfl (by kernel_rfl) (by kernel_rfl) (by kernel_rfl) (by kernel_rfl) (fun _ _ _ h => h) (by kernel_rfl) hClosed (Or.inl ⟨by rfl, ?_⟩) hHeld (fun hClosed => ?_)
        rotate_left
        · intro wv hSw; have hb' := HB.out.trans (hSw.mono HB.out.size); have cc := fun (j : Nat) (v : Value) (hv : (recL r)[j]? = some v) => (hb'.cell (World.block_lt_of_cell? _ _ (HC3.out k r HRK.out j v hv))).trans (HC3.out k r HRK.out j v hv); have e0 := cc 0 _ rfl; rw [Nat.add_zero] at e0; have e1 := cc 1 _ rfl; have e2 := cc 2 _ rfl; have e3 := cc 3 _ rfl; have e4 := cc 4 _ rfl; have e5 := cc 5 _ rfl; clear cc hb'; go_simp; all_goals (with_reducible rfl)
        (try simp only [List.getElem_toArray, List.getElem_cons_succ, List.getElem_cons_zero, put_at, List.set])
        refine wpAnyL_one (i := 10) rfl (by kernel_rfl) (by kernel_rfl) hClosed (fun KK hK => ?_)
        go_simp
        refine (rsound_yes r _ hsd).mono ?_
        rintro e w8 ⟨rfl, hb8⟩
        go_wp2_with fail
        refine hK.out _ _ ?_ (fun hClosed hHeld => ?_)
        · exact hHeld.trans (hb8.mono hHeld.size)
        clear hK KK
        (first | simp only [List.getElem_toArray, List.getElem_cons_succ, List.getElem_cons_zero, put_at, List.set] | (try simp only [put_at, List.set]))
        refine wpAnyL_last rfl (by kernel_rfl) (by kernel_rfl) (fun KK hK => ?_)
        go_simp
        refine hK.out _ _ ?_
        (try simp only [put_at, List.set])
        go_wp2_with fail
        go_meet
        exact ⟨rfl, Lib.hid (HB.out.trans (hHeld.mono HB.out.size)), Lib.hid (HO.out.later hHeld)⟩
      case rest =>
      clear HO HB
      obtain ⟨rfl, HB, HO⟩ := hcut
      go_wp2_with fail
      refine wp_region_last 13 (fun w' => Below w1.heap.size w1 w' ) (by kernel_rfl) (HB.out.drew) (fun hHeld hClosed => ?_)
      refine wpAnyL_take (i := 0) (v := ?_) rfl (by kernel_rfl) (by kernel_rfl) (by kernel_rfl) (by kernel_rfl) (fun _ _ _ h => h) (by kernel_rfl) hClosed (Or.inl ⟨by rfl, ?_⟩) hHeld (fun hClosed => ?_)
      rotate_left
      · intro wv hSw; go_simp; all_goals (with_reducible rfl)
      (try simp only [List.getElem_toArray, List.getElem_cons_zero, put_at, List.set])
      refine wpAnyL_take (i := 1) (v := ?_) rfl (by kernel_rfl) (by kernel_rfl) (by kernel_rfl) (by kernel_rfl) (fun _ _ _ h => h) (by kernel_rfl) hClosed (Or.inl ⟨by rfl, ?_⟩) hHeld (fun hClosed => ?_)
      rotate_left
      · intro wv hSw; go_simp; all_goals (with_reducible rfl)
      (try simp only [List.getElem_toArray, List.getElem_cons_succ, List.getElem_cons_zero, put_at, List.set])
      refine wpAnyL_take (i := 2) (v := ?_) rfl (by kernel_rfl) (by kernel_rfl) (by kernel_rfl) (by kernel_rfl) (fun _ _ _ h => h) (by kernel_rfl) hClosed (Or.inl ⟨by rfl, ?_⟩) hHeld (fun hClosed => ?_)
      rotate_left
      · intro wv hSw; go_simp; all_goals (with_reducible rfl)
      (try simp only [List.getElem_toArray, List.getElem_cons_succ, List.getElem_cons_zero, put_at, List.set])
      refine wpAnyL_take (i := 3) (v := ?_) rfl (by kernel_rfl) (by kernel_rfl) (by kernel_rfl) (by kernel_rfl) (fun _ _ _ h => h) (by kernel_rfl) hClosed (Or.inl ⟨by rfl, ?_⟩) hHeld (fun hClosed => ?_)
      rotate_left
      · intro wv hSw; go_simp; all_goals (with_reducible rfl)
      (try simp only [List.getElem_toArray, List.getElem_cons_succ, List.getElem_cons_zero, put_at, List.set])
      refine wpAnyL_take (i := 4) (v := ?_) rfl (by kernel_rfl) (by kernel_rfl) (by kernel_rfl) (by kernel_rfl) (fun _ _ _ h => h) (by kernel_rfl) hClosed (Or.inl ⟨by rfl, ?_⟩) hHeld (fun hClosed => ?_)
      rotate_left
      · intro wv hSw; go_simp; all_goals (with_reducible rfl)
      (try simp only [List.getElem_toArray, List.getElem_cons_succ, List.getElem_cons_zero, put_at, List.set])
      refine wpAnyL_take (i := 5) (v := ?_) rfl (by kernel_rfl) (by kernel_rfl) (by kernel_rfl) (by kernel_rfl) (fun _ _ _ h => h) (by kernel_rfl) hClosed (Or.inl ⟨by rfl, ?_⟩) hHeld (fun hClosed => ?_)
      rotate_left
      · intro wv hSw; have hb' := hSw; have cc := fun (j : Nat) (v : Value) (hv : (recL r)[j]? = some v) => (hb'.cell (World.block_lt_of_cell? _ _ (HC3.out k r HRK.out j v hv))).trans (HC3.out k r HRK.out j v hv); have e0 := cc 0 _ rfl; rw [Nat.add_zero] at e0; have e1 := cc 1 _ rfl; have e2 := cc 2 _ rfl; have e3 := cc 3 _ rfl; have e4 := cc 4 _ rfl; have e5 := cc 5 _ rfl; clear cc hb'; go_simp; all_goals (with_reducible rfl)
      (try simp only [List.getElem_toArray, List.getElem_cons_succ, List.getElem_cons_zero, put_at, List.set])
      refine wpAnyL_take (i := 6) (v := ?_) rfl (by kernel_rfl) (by kernel_rfl) (by kernel_rfl) (by kernel_rfl) (fun _ _ _ h => h) (by kernel_rfl) hClosed (Or.inl ⟨by rfl, ?_⟩) hHeld (fun hClosed => ?_)
      rotate_left
      · intro wv hSw; go_simp; all_goals (with_reducible rfl)
      (try simp only [List.getElem_toArray, List.getElem_cons_succ, List.getElem_cons_zero, put_at, List.set])
      refine wpAnyL_take (i := 7) (v := ?_) rfl (by kernel_rfl) (by kernel_rfl) (by kernel_rfl) (by kernel_rfl) (fun _ _ _ h => h) (by kernel_rfl) hClosed (Or.inl ⟨by rfl, ?_⟩) hHeld (fun hClosed => ?_)
      rotate_left
      · intro wv hSw; go_simp; all_goals (with_reducible rfl)
      (try simp only [List.getElem_toArray, List.getElem_cons_succ, List.getElem_cons_zero, put_at, List.set])
      refine wpAnyL_take (i := 8) (v := ?_) rfl (by kernel_rfl) (by kernel_rfl) (by kernel_rfl) (by kernel_rfl) (fun _ _ _ h => h) (by kernel_rfl) hClosed (Or.inl ⟨by rfl, ?_⟩) hHeld (fun hClosed => ?_)
      rotate_left
      · intro wv hSw; go_simp; all_goals (with_reducible rfl)
      (try simp only [List.getElem_toArray, List.getElem_cons_succ, List.getElem_cons_zero, put_at, List.set])
      refine wpAnyL_take (i := 9) (v := ?_) rfl (by kernel_rfl) (by kernel_rfl) (by kernel_rfl) (by kernel_rfl) (fun _ _ _ h => h) (by kernel_rfl) hClosed (Or.inl ⟨by rfl, ?_⟩) hHeld (fun hClosed => ?_)
      rotate_left
      · intro wv hSw; go_simp; all_goals (with_reducible rfl)
      (try simp only [List.getElem_toArray, List.getElem_cons_succ, List.getElem_cons_zero, put_at, List.set])
      refine wpAnyL_take (i := 10) (v := ?_) rfl (by kernel_rfl) (by kernel_rfl) (by kernel_rfl) (by kernel_rfl) (fun _ _ _ h => h) (by kernel_rfl) hClosed (Or.inl ⟨by rfl, ?_⟩) hHeld (fun hClosed => ?_)
      rotate_left
      · intro wv hSw; have hb' := hSw; have cc := fun (j : Nat) (v : Value) (hv : (recL r)[j]? = some v) => (hb'.cell (World.block_lt_of_cell? _ _ (HC3.out k r HRK.out j v hv))).trans (HC3.out k r HRK.out j v hv); have e0 := cc 0 _ rfl; rw [Nat.add_zero] at e0; have e1 := cc 1 _ rfl; have e2 := cc 2 _ rfl; have e3 := cc 3 _ rfl; have e4 := cc 4 _ rfl; have e5 := cc 5 _ rfl; clear cc hb'; go_simp; all_goals (with_reducible rfl)
      (try simp only [List.getElem_toArray, List.getElem_cons_succ, List.getElem_cons_zero, put_at, List.set])
      refine wpAnyL_one (i := 11) rfl (by kernel_rfl) (by kernel_rfl) hClosed (fun KK hK => ?_)
      go_simp
      refine (record_as r E q HE.out HQ.out _ hsd).mono ?_
      rintro e w8 ⟨g8, c8, rfl, ho8, hb8⟩
      go_wp2_with fail
      refine hK.out _ _ ?_ (fun hClosed hHeld => ?_)
      · exact hHeld.trans (hb8.mono hHeld.size)
      clear hK KK
      (first | simp only [List.getElem_toArray, List.getElem_cons_succ, List.getElem_cons_zero, put_at, List.set] | (try simp only [put_at, List.set]))
      have hG8 : OwnB w8 w1.heap.size a' c' G := by first | exact HO.out.drew.later hb8 | exact HO.out.later hb8
      have hs8 := HB.out.size
      have hs9 := hHeld.size
      refine wpAnyL_one (i := 12) rfl (by kernel_rfl) (by kernel_rfl) hClosed (fun KK hK => ?_)
      refine step_app3 rfl _ _ rfl w1.heap.size a' m c' G E F q (m + q) HF3.out HGL.out HQ.out HFL2.out (by omega) rfl hG8 g8 0 c8 rfl ho8.rd (by omega) (by omega) ?_
      intro g9 c9 w9 ho9 hb9
      refine hK.out _ _ ?_ (fun hClosed hHeld => ?_)
      · exact hHeld.trans hb9
      clear hK KK
      (first | simp only [List.getElem_toArray, List.getElem_cons_succ, List.getElem_cons_zero, put_at, List.set] | (try simp only [put_at, List.set]))
      refine wpAnyL_last rfl (by kernel_rfl) (by kernel_rfl) (fun KK hK => ?_)
      go_simp
      refine hK.out _ _ ?_
      (try simp only [put_at, List.set])
      go_wp2_with fail
      go_roundw
      case rel => exact ⟨k + 1, _, c9, m + q, by omega, hFn, by go_num, rfl, Lib.hid (by rw [HF.out, HFL2.out]), Lib.hid (by rw [HF.out]; exact ho9), Lib.hid hHeld⟩
      case measure => simp [intOf]; omega
    · have hd1 : decide ((k : Int) < rs.length) = false := decide_eq_false (by omega)
      have hkk : rs.take k = rs := List.take_of_length_le (by omega)
      rw [hkk] at HM HO
      have HMN : Hid (m = n) := Lib.hid (by rw [HM.out, HFL.out])
      clear hkk
      obtain ⟨G, hG⟩ : ∃ G, flatR rs = G := ⟨_, rfl⟩
      rw [hG] at HO HM
      have hGn : G.length = n := by rw [← hG, HFL.out]
      have hGt : l.take n = G := by
        rw [H3.out, hG]
        exact List.take_left' hGn
      have HGT := Lib.hid hGt
      have hnm : ((n : Int) != (m : Int)) = false := by simp [HMN.out]
      have hgt : decide ((L : Int) < (n : Int)) = false := decide_eq_false (by omega)
      have hgt2 : decide (L < n) = false := decide_eq_false (by omega)
      have hni : (0 : Int) ≤ (n : Int) := by omega
      have hnc : (n : Int) ≤ (cap : Int) := by omega
      have hncn : n ≤ cap := by omega
      have HGM : Hid (G.length = m) := Lib.hid (by rw [HM.out])
      have HTL : Hid ((l.take n).length = n) := Lib.hid (by rw [hGt, hGn])
      clear hG hGn hGt HM
      go_wp2_with fail
      go_cut [69] (fun v wx => v = .bool false ∧ Hid (Below w1.heap.size w1 wx))
      case first =>
        refine wp_region_last 18 (fun w' => Below wr.heap.size wr w') (by kernel_rfl) (Below.drew (Below.refl _ _)) (fun hHeld hClosed => ?_)
        refine wpAnyL_take (i := 0) (v := ?_) rfl (by kernel_rfl) (by kernel_rfl) (by kernel_rfl) (by kernel_rfl) (fun _ _ _ h => h) (by kernel_rfl) hClosed (Or.inl ⟨by rfl, ?_⟩) hHeld (fun hClosed => ?_)
        rotate_left
        · intro wv hSw; go_simp; all_goals (with_reducible rfl)
        (try simp only [List.getElem_toArray, List.getElem_cons_zero, put_at, List.set])
        refine wpAnyL_take (i := 1) (v := ?_) rfl (by kernel_rfl) (by kernel_rfl) (by kernel_rfl) (by kernel_rfl) (fun _ _ _ h => h) (by kernel_rfl) hClosed (Or.inl ⟨by rfl, ?_⟩) hHeld (fun hClosed => ?_)
        rotate_left
        · intro wv hSw; go_simp; all_goals (with_reducible rfl)
        (try simp only [List.getElem_toArray, List.getElem_cons_succ, List.getElem_cons_zero, put_at, List.set])
        refine wpAnyL_take (i := 2) (v := ?_) rfl (by kernel_rfl) (by kernel_rfl) (by kernel_rfl) (by kernel_rfl) (fun _ _ _ h => h) (by kernel_rfl) hClosed (Or.inl ⟨by rfl, ?_⟩) hHeld (fun hClosed => ?_)
        rotate_left
        · intro wv hSw; go_simp; all_goals (with_reducible rfl)
        (try simp only [List.getElem_toArray, List.getElem_cons_succ, List.getElem_cons_zero, put_at, List.set])
        refine wpAnyL_take (i := 3) (v := ?_) rfl (by kernel_rfl) (by kernel_rfl) (by kernel_rfl) (by kernel_rfl) (fun _ _ _ h => h) (by kernel_rfl) hClosed (Or.inl ⟨by rfl, ?_⟩) hHeld (fun hClosed => ?_)
        rotate_left
        · intro wv hSw; go_simp; all_goals (with_reducible rfl)
        (try simp only [List.getElem_toArray, List.getElem_cons_succ, List.getElem_cons_zero, put_at, List.set])
        refine wpAnyL_take (i := 4) (v := ?_) rfl (by kernel_rfl) (by kernel_rfl) (by kernel_rfl) (by kernel_rfl) (fun _ _ _ h => h) (by kernel_rfl) hClosed (Or.inl ⟨by rfl, ?_⟩) hHeld (fun hClosed => ?_)
        rotate_left
        · intro wv hSw; go_simp; all_goals (with_reducible rfl)
        (try simp only [List.getElem_toArray, List.getElem_cons_succ, List.getElem_cons_zero, put_at, List.set])
        refine wpAnyL_take (i := 5) (v := ?_) rfl (by kernel_rfl) (by kernel_rfl) (by kernel_rfl) (by kernel_rfl) (fun _ _ _ h => h) (by kernel_rfl) hClosed (Or.inl ⟨by rfl, ?_⟩) hHeld (fun hClosed => ?_)
        rotate_left
        · intro wv hSw; go_simp; all_goals (with_reducible rfl)
        (try simp only [List.getElem_toArray, List.getElem_cons_succ, List.getElem_cons_zero, put_at, List.set])
        refine wpAnyL_take (i := 6) (v := ?_) rfl (by kernel_rfl) (by kernel_rfl) (by kernel_rfl) (by kernel_rfl) (fun _ _ _ h => h) (by kernel_rfl) hClosed (Or.inl ⟨by rfl, ?_⟩) hHeld (fun hClosed => ?_)
        rotate_left
        · intro wv hSw; go_simp; all_goals (with_reducible rfl)
        (try simp only [List.getElem_toArray, List.getElem_cons_succ, List.getElem_cons_zero, put_at, List.set])
        refine wpAnyL_take (i := 7) (v := ?_) rfl (by kernel_rfl) (by kernel_rfl) (by kernel_rfl) (by kernel_rfl) (fun _ _ _ h => h) (by kernel_rfl) hClosed (Or.inl ⟨by rfl, ?_⟩) hHeld (fun hClosed => ?_)
        rotate_left
        · intro wv hSw; go_simp; all_goals (with_reducible rfl)
        (try simp only [List.getElem_toArray, List.getElem_cons_succ, List.getElem_cons_zero, put_at, List.set])
        refine wpAnyL_take (i := 8) (v := ?_) rfl (by kernel_rfl) (by kernel_rfl) (by kernel_rfl) (by kernel_rfl) (fun _ _ _ h => h) (by kernel_rfl) hClosed (Or.inl ⟨by rfl, ?_⟩) hHeld (fun hClosed => ?_)
        rotate_left
        · intro wv hSw; go_simp; all_goals (with_reducible rfl)
        (try simp only [List.getElem_toArray, List.getElem_cons_succ, List.getElem_cons_zero, put_at, List.set])
        refine wpAnyL_take (i := 9) (v := ?_) rfl (by kernel_rfl) (by kernel_rfl) (by kernel_rfl) (by kernel_rfl) (fun _ _ _ h => h) (by kernel_rfl) hClosed (Or.inl ⟨by rfl, ?_⟩) hHeld (fun hClosed => ?_)
        rotate_left
        · intro wv hSw; go_simp; all_goals (with_reducible rfl)
        (try simp only [List.getElem_toArray, List.getElem_cons_succ, List.getElem_cons_zero, put_at, List.set])
        refine wpAnyL_take (i := 10) (v := ?_) rfl (by kernel_rfl) (by kernel_rfl) (by kernel_rfl) (by kernel_rfl) (fun _ _ _ h => h) (by kernel_rfl) hClosed (Or.inl ⟨by rfl, ?_⟩) hHeld (fun hClosed => ?_)
        rotate_left
        · intro wv hSw; go_simp; all_goals (with_reducible rfl)
        (try simp only [List.getElem_toArray, List.getElem_cons_succ, List.getElem_cons_zero, put_at, List.set])
        refine wpAnyL_take (i := 11) (v := ?_) rfl (by kernel_rfl) (by kernel_rfl) (by kernel_rfl) (by kernel_rfl) (fun _ _ _ h => h) (by kernel_rfl) hClosed (Or.inl ⟨by rfl, ?_⟩) hHeld (fun hClosed => ?_)
        rotate_left
        · intro wv hSw; go_simp; all_goals (with_reducible rfl)
        (try simp only [List.getElem_toArray, List.getElem_cons_succ, List.getElem_cons_zero, put_at, List.set])
        refine wpAnyL_take (i := 12) (v := ?_) rfl (by kernel_rfl) (by kernel_rfl) (by kernel_rfl) (by kernel_rfl) (fun _ _ _ h => h) (by kernel_rfl) hClosed (Or.inl ⟨by rfl, ?_⟩) hHeld (fun hClosed => ?_)
        rotate_left
        · intro wv hSw; go_simp; all_goals (with_reducible rfl)
        (try simp only [List.getElem_toArray, List.getElem_cons_succ, List.getElem_cons_zero, put_at, List.set])
        refine wpAnyL_take (i := 13) (v := ?_) rfl (by kernel_rfl) (by kernel_rfl) (by kernel_rfl) (by kernel_rfl) (fun _ _ _ h => h) (by kernel_rfl) hClosed (Or.inl ⟨by rfl, ?_⟩) hHeld (fun hClosed => ?_)
        rotate_left
        · intro wv hSw; go_simp; all_goals (with_reducible rfl)
        (try simp only [List.getElem_toArray, List.getElem_cons_succ, List.getElem_cons_zero, put_at, List.set])
        refine wpAnyL_take (i := 14) (v := ?_) rfl (by kernel_rfl) (by kernel_rfl) (by kernel_rfl) (by kernel_rfl) (fun _ _ _ h => h) (by kernel_rfl) hClosed (Or.inl ⟨by rfl, ?_⟩) hHeld (fun hClosed => ?_)
        rotate_left
        · intro wv hSw; have hb' := hb1.trans ((HB.out.trans (hSw.mono HB.out.size)).mono hb1.size); have hX := ((HRD.out.later hb').take n).text (P := Try.prog) 27 5 9 Try.underlying27 Try.underlying5 Try.underlying9 (fun _ => Or.inr ⟨_, _, rfl⟩) cap; rw [HGT.out] at hX; rw [show G.length = n by rw [HGM.out, HMN.out]] at hX; have hY := (HO.out.later hSw).text (P := Try.prog) 27 5 9 Try.underlying27 Try.underlying5 Try.underlying9 m HGM.out; clear hb'; go_simp; all_goals (with_reducible rfl)
        (try simp only [List.getElem_toArray, List.getElem_cons_succ, List.getElem_cons_zero, put_at, List.set])
        refine wpAnyL_take (i := 15) (v := ?_) rfl (by kernel_rfl) (by kernel_rfl) (by kernel_rfl) (by kernel_rfl) (fun _ _ _ h => h) (by kernel_rfl) hClosed (Or.inl ⟨by rfl, ?_⟩) hHeld (fun hClosed => ?_)
        rotate_left
        · intro wv hSw; go_simp; all_goals (with_reducible rfl)
        (try simp only [List.getElem_toArray, List.getElem_cons_succ, List.getElem_cons_zero, put_at, List.set])
        refine wpAnyL_take (i := 16) (v := ?_) rfl (by kernel_rfl) (by kernel_rfl) (by kernel_rfl) (by kernel_rfl) (fun _ _ _ h => h) (by kernel_rfl) hClosed (Or.inl ⟨by rfl, ?_⟩) hHeld (fun hClosed => ?_)
        rotate_left
        · intro wv hSw; have hb' := hb1.trans ((HB.out.trans (hSw.mono HB.out.size)).mono hb1.size); have hX := ((HRD.out.later hb').take n).text (P := Try.prog) 27 5 9 Try.underlying27 Try.underlying5 Try.underlying9 (fun _ => Or.inr ⟨_, _, rfl⟩) cap; rw [HGT.out] at hX; rw [show G.length = n by rw [HGM.out, HMN.out]] at hX; have hY := (HO.out.later hSw).text (P := Try.prog) 27 5 9 Try.underlying27 Try.underlying5 Try.underlying9 m HGM.out; clear hb'; go_simp; all_goals (with_reducible rfl)
        (try simp only [List.getElem_toArray, List.getElem_cons_succ, List.getElem_cons_zero, put_at, List.set])
        refine wpAnyL_take (i := 17) (v := ?_) rfl (by kernel_rfl) (by kernel_rfl) (by kernel_rfl) (by kernel_rfl) (fun _ _ _ h => h) (by kernel_rfl) hClosed (Or.inl ⟨by rfl, ?_⟩) hHeld (fun hClosed => ?_)
        rotate_left
        · intro wv hSw; go_simp; all_goals (with_reducible rfl)
        (try simp only [List.getElem_toArray, List.getElem_cons_succ, List.getElem_cons_zero, put_at, List.set])
        refine wpAnyL_last rfl (by kernel_rfl) (by kernel_rfl) (fun KK hK => ?_)
        go_simp
        refine hK.out _ _ ?_
        (try simp only [put_at, List.set])
        go_wp2_with fail
        go_meet
        exact ⟨rfl, Lib.hid (HB.out.trans (hHeld.mono HB.out.size))⟩
      case rest =>
      clear HB HO
      obtain ⟨rfl, HB⟩ := hcut
      obtain ⟨i0, hi0, hz0, hz1, hz2⟩ := info_parts info5
      obtain ⟨U, hU, hU1, _⟩ := slice_from (P := Try.prog) 27 5 Try.underlying27 hi0 hz1 b off L cap n hn1 hlc
      have hsz := hb1.size
      have HRX : Hid (RdB wc (some ⟨b, U, none⟩) (l.drop n)) := Lib.hid (RdB.rest (HRD.out.later (hb1.trans (HB.out.mono hsz))) (by rw [HL.out]; exact hlc) hU1)
      clear hi0 hz0 hz1 hz2 hU1
      go_wp2_with (refine wpList_slice rfl 27 _ _ _ _ _ rfl rfl hU ?_)
      refine (scan_as (l.drop n) [] 0 0 (scanned_rest HS.out) rfl (L - n) _ (cap - n) _ (by rw [List.length_drop, HL.out]) HRX.out (HBY.out.drop n) (by omega) (by omega) (Or.inr ⟨_, _, rfl⟩)).mono ?_
      rintro e w2 ⟨a2, c2, rfl, hr2, hk2, hb2⟩
      have B2 := HB.out.trans (hb2.mono HB.out.size)
      go_wp2_with fail
      refine (awake14 _).mono ?_
      rintro e w3 ⟨rfl, hb3⟩
      have B3 := B2.trans (hb3.mono B2.size)
      go_wp2_with fail
      go_ret
      exact ⟨rfl, hb1.trans (B3.mono hsz)⟩

theorem frameScans_walk (a : Option Addr) (len cap : Nat) (zs : List Int) (w : World) (hrow : IsRow .u8 w a len cap zs) :
    Calls Try.prog 4 #[.slice a len cap] w fun e w' => e = .returned (.bool true) ∧ Below w.heap.size w w' := by
  obtain ⟨hr, hb, hl, hz, hp, hm⟩ := rdb_of_row hrow
  rcases hp with rfl | ⟨b, off, rfl⟩
  · obtain rfl : len = 0 := by omega
    exact frameScans_nil a w
  · by_cases h : 4000 < len
    · exact frameScans_main (zs.take 4000) 4000 b off len cap w (by rw [List.length_take]; omega) (hr.take _) (hb.take _) (by omega) hm (by omega) (Or.inr ⟨h, rfl⟩) (by omega)
    · exact frameScans_main (zs.take len) len b off len cap w (by rw [List.length_take]; omega) (hr.take _) (hb.take _) (by omega) hm (by omega) (Or.inl rfl) (by omega)
end Go.Proofs.Ytndgpdpabjaedaa
