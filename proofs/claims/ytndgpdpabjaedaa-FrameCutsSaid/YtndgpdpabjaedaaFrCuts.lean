/- The law on records that are cut off anywhere, walked. -/
import Derived.Test.YtndgpdpabjaedaaFrUnlike
import Derived.Test.YtndgpdpabjaedaaOwnP
namespace Go.Proofs.Ytndgpdpabjaedaa
open Go.RowKit
set_option linter.unusedSimpArgs false
set_option linter.unusedVariables false

/-- Those of the first k that may be. -/
def goodR (rs : List Rc) (k : Nat) : List Rc := (rs.take k).filter fun r => decide (soundR r)
theorem goodR_yes {rs : List Rc} {k : Nat} {r : Rc} (h : rs[k]? = some r) (hs : soundR r) : goodR rs (k + 1) = goodR rs k ++ [r] := by
  unfold goodR
  rw [List.take_add_one, h]
  simp [hs]
theorem goodR_no {rs : List Rc} {k : Nat} {r : Rc} (h : rs[k]? = some r) (hs : ¬ soundR r) : goodR rs (k + 1) = goodR rs k := by
  unfold goodR
  rw [List.take_add_one, h]
  simp [hs]
theorem goodR_sound {rs : List Rc} {k : Nat} {r : Rc} (h : r ∈ goodR rs k) : soundR r ∧ r ∈ rs := by
  unfold goodR at h
  rw [List.mem_filter] at h
  exact ⟨by simpa using h.2, List.mem_of_mem_take h.1⟩
/-- Where each of some records ends. -/
def endsL (G : List Rc) : List Int := (List.range G.length).map fun j => ((flatR (G.take (j + 1))).length : Int)
theorem endsL_snoc (G : List Rc) (r : Rc) : endsL (G ++ [r]) = endsL G ++ [((flatR (G ++ [r])).length : Int)] := by
  unfold endsL
  rw [List.length_append, List.length_singleton, List.range_succ, List.map_append, List.map_singleton]
  congr 1
  · refine List.map_congr_left fun j hj => ?_
    have := List.mem_range.1 hj
    rw [List.take_append_of_le_length (by omega)]
  · rw [List.take_of_length_le (by simp)]
theorem endsL_length (G : List Rc) : (endsL G).length = G.length := by simp [endsL]
theorem endsL_at {G : List Rc} {j : Nat} (h : j < G.length) : (endsL G)[j]? = some ((flatR (G.take (j + 1))).length : Int) := by simp [endsL, h]
theorem flatR_snoc (G : List Rc) (r : Rc) : flatR (G ++ [r]) = flatR G ++ encR r := by simp [flatR]
theorem flat_mono (G : List Rc) {i j : Nat} (h : i ≤ j) : (flatR (G.take i)).length ≤ (flatR (G.take j)).length := by
  have : G.take i = (G.take j).take i := by rw [List.take_take, Nat.min_eq_left h]
  rw [this]
  exact flat_le (G.take j) i
theorem encR_le {r : Rc} (h : soundR r) : (encR r).length ≤ 1050 := by
  obtain ⟨_, _, _, _, _, _, h7, h8⟩ := h
  unfold encR
  rw [recB_length, contR_length]
  omega
theorem flat_bytes {G : List Rc} (h : ∀ r ∈ G, soundR r) : Byts (flatR G) := by
  intro c hc
  obtain ⟨r, hr, hc⟩ := List.mem_flatMap.1 hc
  exact encR_byts (h r hr) c hc
/-- How many records end by kk. -/
theorem cut_count (G : List Rc) (kk : Nat) : ∃ m, m ≤ G.length ∧ (flatR (G.take m)).length ≤ kk ∧ (m = G.length ∨ kk < (flatR (G.take (m + 1))).length) := by
  suffices ∀ n m, n + m = G.length → (flatR (G.take m)).length ≤ kk → ∃ m, m ≤ G.length ∧ (flatR (G.take m)).length ≤ kk ∧ (m = G.length ∨ kk < (flatR (G.take (m + 1))).length) by
    exact this G.length 0 (by omega) (by simp [flatR])
  intro n
  induction n with
  | zero => intro m hm h; exact ⟨m, by omega, h, Or.inl (by omega)⟩
  | succ n ih =>
    intro m hm h
    by_cases hk : kk < (flatR (G.take (m + 1))).length
    · exact ⟨m, by omega, h, Or.inr hk⟩
    · exact ih (m + 1) (by omega) (by omega)
theorem scanned_cut {G : List Rc} (h : ∀ r ∈ G, soundR r ∧ FitR r) {kk m : Nat} (hk : kk ≤ (flatR G).length) (hm : m ≤ G.length) (h1 : (flatR (G.take m)).length ≤ kk) (h2 : m = G.length ∨ kk < (flatR (G.take (m + 1))).length) :
    Scanned ((flatR G).take kk) (G.take m) (flatR (G.take m)).length := by
  have hG : flatR G = flatR (G.take m) ++ flatR (G.drop m) := by unfold flatR; rw [← List.flatMap_append, List.take_append_drop]
  have ht : (flatR G).take kk = flatR (G.take m) ++ (flatR (G.drop m)).take (kk - (flatR (G.take m)).length) := by
    rw [hG, List.take_append, List.take_of_length_le (by omega)]
  refine ⟨fun r hr => h r (List.mem_of_mem_take hr), rfl, ?_, ?_⟩
  · rw [ht, List.drop_left' rfl]
  · rw [ht, List.drop_left' rfl]
    rcases h2 with h2 | h2
    · rw [h2, List.drop_length]
      simpa [flatR] using decR_nil
    · have hlt : m < G.length := by
        rcases Nat.lt_or_ge m G.length with h3 | h3
        · exact h3
        · rw [List.take_of_length_le (by omega)] at h2
          rw [List.take_of_length_le h3] at h1
          omega
      obtain ⟨r, hr⟩ : ∃ r, G[m]? = some r := ⟨_, List.getElem?_eq_getElem hlt⟩
      obtain ⟨hs, _⟩ := h r (List.mem_of_getElem? hr)
      have hd : G.drop m = r :: G.drop (m + 1) := by
        have := List.getElem?_eq_some_iff.1 hr
        rw [← this.2]
        exact List.drop_eq_getElem_cons hlt
      rw [← flat_take hr, List.length_append] at h2
      rw [hd, show flatR (r :: G.drop (m + 1)) = encR r ++ flatR (G.drop (m + 1)) from rfl, List.take_append_of_le_length (by omega)]
      exact dec_short hs (by omega)

theorem infoI : (Try.prog.info? 3).map (fun i => (i.zero, i.size, i.bytes)) = some (some (.int .i64 0), 1, 8) := by kernel_rfl
theorem cell_news {w : World} {g : Nat} {l : List Value} (h : ∀ j v, l[j]? = some v → w.cell? ⟨g, j, none⟩ = some v) : ∀ j v, l[j]? = some v → w.cell? ((⟨g, 0, none⟩ : Addr).add j) = some v := by
  intro j v hv
  rw [Go.WideShapes.add_plain, Nat.zero_add]
  exact h j v hv
theorem bytes_one (l : List Int) : ∀ u ∈ l.map (Value.int .u8), u.oneCell' = true := by
  intro u hu
  obtain ⟨c, _, rfl⟩ := List.mem_map.1 hu
  rfl
theorem wrapI (n : Int) : IntKind.i64.wrap n = wrap64 n := by rw [IntKind.wrap_i64, wrap64]

set_option maxRecDepth 100000 in
set_option maxHeartbeats 4000000 in
theorem frameCuts_walk (x : Option Addr × Nat × Nat) (tc : Int) (w : World) (hx : IsRecs w x) (ht : (Lit.int .u16 tc).wf = true) :
    Calls Try.prog 6 #[.slice x.1 x.2.1 x.2.2, .int .u16 tc] w fun e w' => e = .returned (.bool true) ∧ Below w.heap.size w w' := by
  obtain ⟨a, len, cap⟩ := x
  obtain ⟨rs, hlen, hmax, hcap, hrd, hok⟩ := hx
  simp only at hlen hcap hrd
  show Calls Try.prog 6 #[.slice a len cap, .int .u16 tc] w _
  have htc : 0 ≤ tc ∧ tc < 65536 := by
    simp [Lit.wf, IntKind.min, IntKind.max, IntKind.signed, IntKind.bits] at ht
    omega
  obtain ⟨htc0, htc1⟩ := htc
  have hlm : len ≤ 9223372036854775807 := by omega
  have HLEN := Lib.hid hlen
  have HOK := Lib.hid hok
  obtain ⟨b, off, ha, hc⟩ : ∃ b off, (0 < rs.length → a = some ⟨b, off, none⟩) ∧ ∀ i r, rs[i]? = some r → ∀ j v, (recL r)[j]? = some v → w.cell? ⟨b, off + i * 6 + j, none⟩ = some v := by
    rcases hrd with h | ⟨b, off, ha, hc⟩
    · exact ⟨0, 0, fun h0 => by rw [h] at h0; simp at h0, fun i r hi => by rw [h] at hi; simp at hi⟩
    · exact ⟨b, off, fun _ => ha, hc⟩
  have HA := Lib.hid ha
  have HC := Lib.hid hc
  obtain ⟨N, hN⟩ : ∃ N, min len 10 = N := ⟨_, rfl⟩
  have hN1 : N ≤ len := by omega
  have hN2 : N ≤ 10 := by omega
  have hN3 : N = len ∨ N = 10 := by omega
  clear ht hlen hmax hrd hok ha hc hN
  obtain ⟨i0, hi0, hz0, hz1, hz2⟩ := info_parts info5
  obtain ⟨j0, hj0, hy0, hy1, hy2⟩ := info_parts infoI
  obtain ⟨r0', hr0, hx0, hx1, hx2⟩ := info_parts infoR
  go_enter Try.func6, Try.ntmps6
  go_wp2_with fail
  go_loopw [5, 6, 7, 8] (fun v5 v6 v7 v8 wx => ∃ k g5 c5 m g6 c6 q g7 c7 : Nat, k ≤ N ∧ v8 = .int .i64 k ∧ v5 = .slice (some ⟨g5, 0, none⟩) m c5 ∧ v6 = .slice (some ⟨g6, 0, none⟩) q c6 ∧ v7 = .slice (some ⟨g7, 0, none⟩) q c7 ∧ m ≤ 1050 * k ∧ q ≤ k ∧ g5 ≠ g6 ∧ g5 ≠ g7 ∧ g6 ≠ g7 ∧ Hid (q = (goodR rs k).length) ∧ Hid (m = (flatR (goodR rs k)).length) ∧ Hid (OwnP wx w.heap.size 5 1 g5 c5 m ((flatR (goodR rs k)).map (Value.int .u8))) ∧ Hid (OwnP wx w.heap.size 3 1 g6 c6 q ((endsL (goodR rs k)).map (Value.int .i64))) ∧ Hid (OwnP wx w.heap.size 25 6 g7 c7 q (flatC (goodR rs k))) ∧ Hid (Below w.heap.size w wx)) (fun _ _ _ v8 _ => N - (intOf v8).toNat)
  case atStart => exact ⟨0, w.heap.size, 0, 0, w.heap.size + 1, 0, 0, w.heap.size + 2, 0, by omega, rfl, rfl, by simp, by simp, by omega, by omega, by omega, by omega, by omega, Lib.hid rfl, Lib.hid rfl,
    Lib.hid (((OwnP.lit w _ _ 1 #[] 0 (Nat.le_refl _) (by decide) rfl).alloc _).alloc _), Lib.hid (by have := (OwnP.lit (w.alloc (.cells #[] 5)) w.heap.size 3 1 #[] 0 (by simp) (by decide) rfl).alloc (.cells #[] 25); simpa [endsL, goodR] using this), Lib.hid (by have := OwnP.lit ((w.alloc (.cells #[] 5)).alloc (.cells #[] 3)) w.heap.size 25 6 #[] 0 (by simp; omega) (by decide) rfl; simpa [flatC, goodR] using this),
    Lib.hid ((((Below.refl _ _).alloc (Nat.le_refl _) _).alloc (by simp) _).alloc (by simp; omega) _)⟩
  case round =>
    obtain ⟨k, g5, c5, m, g6, c6, q, g7, c7, hk, rfl, rfl, rfl, rfl, hm, hq, n56, n57, n67, HQ, HM, HO5, HO6, HO7, HB⟩ := hrel
    obtain ⟨tb, htb⟩ : ∃ tb : Bool, tb = decide (k < N) := ⟨_, rfl⟩
    have hbs := HB.out.size
    go_upto_region 5 with fail
    go_cut [26] (fun v wx => v = .bool tb ∧ wr = wx)
    case first =>
      by_cases h1 : k < len
      · have hd1 : decide ((k : Int) < len) = true := decide_eq_true (by omega)
        by_cases h2 : k < 10
        · have hd2 : decide ((k : Int) < 10) = true := decide_eq_true (by omega)
          rw [decide_eq_true (by omega)] at htb
          subst htb
          go_wp2_with fail
          go_meet
          exact ⟨rfl, rfl⟩
        · have hd2 : decide ((k : Int) < 10) = false := decide_eq_false (by omega)
          rw [decide_eq_false (by omega)] at htb
          subst htb
          go_wp2_with fail
          go_meet
          exact ⟨rfl, rfl⟩
      · have hd1 : decide ((k : Int) < len) = false := decide_eq_false (by omega)
        rw [decide_eq_false (by omega)] at htb
        subst htb
        go_wp2_with fail
        go_meet
        exact ⟨rfl, rfl⟩
    case rest =>
    obtain ⟨rfl, rfl⟩ := hcut
    cases tb with
    | true =>
      have hlt : k < N := by simpa using htb.symm
      clear htb
      obtain ⟨r, hrk⟩ : ∃ r, rs[k]? = some r := ⟨_, List.getElem?_eq_getElem (by rw [HLEN.out]; omega)⟩
      have ha := HA.out (by rw [HLEN.out]; omega)
      subst ha
      have HRK := Lib.hid hrk
      obtain ⟨_, _, _, _, hh, hp⟩ := HOK.out r (List.mem_of_getElem? hrk)
      have hfit := (HOK.out r (List.mem_of_getElem? hrk)).fit
      have hki : (0 : Int) ≤ (k : Int) := by omega
      have hkl : (k : Int) < (len : Int) := by omega
      obtain ⟨W, hW⟩ : ∃ W, IntKind.i64.wrap ((r.host.size : Int) + (r.path.size : Int)) = W := ⟨_, rfl⟩
      have hsW : soundR r → ¬ 1100 < W := fun hs => by
        obtain ⟨_, _, _, _, _, _, h7, h8⟩ := hs
        rw [← hW, wrapI]
        unfold wrap64
        omega
      have HSW := Lib.hid hsW
      clear hrk hsW
      go_wp2_with fail
      go_cut [44] (fun v wx => v = .bool (decide (1100 < W)) ∧ Hid (Below wr.heap.size wr wx))
      case first =>
        refine wp_region_last 15 (fun w' => Below wr.heap.size wr w') (by kernel_rfl) (Below.drew (Below.refl _ _)) (fun hHeld hClosed => ?_)
        refine wpAnyL_take (i := 0) (v := ?_) rfl (by kernel_rfl) (by kernel_rfl) (by kernel_rfl) (by kernel_rfl) (fun _ _ _ h => h) (by kernel_rfl) hClosed (Or.inl ⟨by rfl, ?_⟩) hHeld (fun hClosed => ?_)
        rotate_left
        · intro wv hSw; go_simp; all_goals (with_reducible rfl)
        (try simp only [List.getElem_toArray, List.getElem_cons_zero, put_at, List.set])
        refine wpAnyL_take (i := 1) (v := ?_) rfl (by kernel_rfl) (by kernel_rfl) (by kernel_rfl) (by kernel_rfl) (fun _ _ _ h => h) (by kernel_rfl) hClosed (Or.inl ⟨by rfl, ?_⟩) hHeld (fun hClosed => ?_)
        rotate_left
        · intro wv hSw; go_simp; all_goals (with_reducible rfl)
        (try simp only [List.getElem_toArray, List.getElem_cons_succ, List.getElem_cons_zero, put_at, List.set])
        refine wpAnyL_take (i := 2) (v := ?_) rfl (by kernel_rfl) (by kernel_rfl) (by kernel_rfl) (by kernel_rfl) (fun _ _ _ h => h) (by kernel_rfl) hClosed (Or.inl ⟨by rfl, ?_⟩) hHeld (fun hClosed => ?_)
        rotate_left
        · intro wv hSw; go_simp; all_goals (with_reducible rfl)
        (try simp only [List.getElem_toArray, List.getElem_cons_succ, List.getElem_cons_zero, put_at, List.set])
        refine wpAnyL_take (i := 3) (v := ?_) rfl (by kernel_rfl) (by kernel_rfl) (by kernel_rfl) (by kernel_rfl) (fun _ _ _ h => h) (by kernel_rfl) hClosed (Or.inl ⟨by rfl, ?_⟩) hHeld (fun hClosed => ?_)
        rotate_left
        · intro wv hSw; go_simp; all_goals (with_reducible rfl)
        (try simp only [List.getElem_toArray, List.getElem_cons_succ, List.getElem_cons_zero, put_at, List.set])
        refine wpAnyL_take (i := 4) (v := ?_) rfl (by kernel_rfl) (by kernel_rfl) (by kernel_rfl) (by kernel_rfl) (fun _ _ _ h => h) (by kernel_rfl) hClosed (Or.inl ⟨by rfl, ?_⟩) hHeld (fun hClosed => ?_)
        rotate_left
        · intro wv hSw; go_simp; all_goals (with_reducible rfl)
        (try simp only [List.getElem_toArray, List.getElem_cons_succ, List.getElem_cons_zero, put_at, List.set])
        refine wpAnyL_take (i := 5) (v := ?_) rfl (by kernel_rfl) (by kernel_rfl) (by kernel_rfl) (by kernel_rfl) (fun _ _ _ h => h) (by kernel_rfl) hClosed (Or.inl ⟨by rfl, ?_⟩) hHeld (fun hClosed => ?_)
        rotate_left
        · intro wv hSw; have hb' := HB.out.trans (hSw.mono HB.out.size); have cc := fun (j : Nat) (v : Value) (hv : (recL r)[j]? = some v) => (hb'.cell (World.block_lt_of_cell? _ _ (HC.out k r HRK.out j v hv))).trans (HC.out k r HRK.out j v hv); have e0 := cc 0 _ rfl; rw [Nat.add_zero] at e0; have e1 := cc 1 _ rfl; have e2 := cc 2 _ rfl; have e3 := cc 3 _ rfl; have e4 := cc 4 _ rfl; have e5 := cc 5 _ rfl; clear cc hb'; go_simp; all_goals (with_reducible rfl)
        (try simp only [List.getElem_toArray, List.getElem_cons_succ, List.getElem_cons_zero, put_at, List.set])
        refine wpAnyL_take (i := 6) (v := ?_) rfl (by kernel_rfl) (by kernel_rfl) (by kernel_rfl) (by kernel_rfl) (fun _ _ _ h => h) (by kernel_rfl) hClosed (Or.inl ⟨by rfl, ?_⟩) hHeld (fun hClosed => ?_)
        rotate_left
        · intro wv hSw; go_simp; all_goals (with_reducible rfl)
        (try simp only [List.getElem_toArray, List.getElem_cons_succ, List.getElem_cons_zero, put_at, List.set])
        refine wpAnyL_take (i := 7) (v := ?_) rfl (by kernel_rfl) (by kernel_rfl) (by kernel_rfl) (by kernel_rfl) (fun _ _ _ h => h) (by kernel_rfl) hClosed (Or.inl ⟨by rfl, ?_⟩) hHeld (fun hClosed => ?_)
        rotate_left
        · intro wv hSw; go_simp; all_goals (with_reducible rfl)
        (try simp only [List.getElem_toArray, List.getElem_cons_succ, List.getElem_cons_zero, put_at, List.set])
        refine wpAnyL_take (i := 8) (v := ?_) rfl (by kernel_rfl) (by kernel_rfl) (by kernel_rfl) (by kernel_rfl) (fun _ _ _ h => h) (by kernel_rfl) hClosed (Or.inl ⟨by rfl, ?_⟩) hHeld (fun hClosed => ?_)
        rotate_left
        · intro wv hSw; go_simp; all_goals (with_reducible rfl)
        (try simp only [List.getElem_toArray, List.getElem_cons_succ, List.getElem_cons_zero, put_at, List.set])
        refine wpAnyL_take (i := 9) (v := ?_) rfl (by kernel_rfl) (by kernel_rfl) (by kernel_rfl) (by kernel_rfl) (fun _ _ _ h => h) (by kernel_rfl) hClosed (Or.inl ⟨by rfl, ?_⟩) hHeld (fun hClosed => ?_)
        rotate_left
        · intro wv hSw; go_simp; all_goals (with_reducible rfl)
        (try simp only [List.getElem_toArray, List.getElem_cons_succ, List.getElem_cons_zero, put_at, List.set])
        refine wpAnyL_take (i := 10) (v := ?_) rfl (by kernel_rfl) (by kernel_rfl) (by kernel_rfl) (by kernel_rfl) (fun _ _ _ h => h) (by kernel_rfl) hClosed (Or.inl ⟨by rfl, ?_⟩) hHeld (fun hClosed => ?_)
        rotate_left
        · intro wv hSw; go_simp; all_goals (with_reducible rfl)
        (try simp only [List.getElem_toArray, List.getElem_cons_succ, List.getElem_cons_zero, put_at, List.set])
        refine wpAnyL_take (i := 11) (v := ?_) rfl (by kernel_rfl) (by kernel_rfl) (by kernel_rfl) (by kernel_rfl) (fun _ _ _ h => h) (by kernel_rfl) hClosed (Or.inl ⟨by rfl, ?_⟩) hHeld (fun hClosed => ?_)
        rotate_left
        · intro wv hSw; go_simp; all_goals (with_reducible rfl)
        (try simp only [List.getElem_toArray, List.getElem_cons_succ, List.getElem_cons_zero, put_at, List.set])
        refine wpAnyL_take (i := 12) (v := ?_) rfl (by kernel_rfl) (by kernel_rfl) (by kernel_rfl) (by kernel_rfl) (fun _ _ _ h => h) (by kernel_rfl) hClosed (Or.inl ⟨by rfl, ?_⟩) hHeld (fun hClosed => ?_)
        rotate_left
        · intro wv hSw; have hb' := HB.out.trans (hSw.mono HB.out.size); have cc := fun (j : Nat) (v : Value) (hv : (recL r)[j]? = some v) => (hb'.cell (World.block_lt_of_cell? _ _ (HC.out k r HRK.out j v hv))).trans (HC.out k r HRK.out j v hv); have e0 := cc 0 _ rfl; rw [Nat.add_zero] at e0; have e1 := cc 1 _ rfl; have e2 := cc 2 _ rfl; have e3 := cc 3 _ rfl; have e4 := cc 4 _ rfl; have e5 := cc 5 _ rfl; clear cc hb'; go_simp; all_goals (with_reducible rfl)
        (try simp only [List.getElem_toArray, List.getElem_cons_succ, List.getElem_cons_zero, put_at, List.set])
        refine wpAnyL_take (i := 13) (v := ?_) rfl (by kernel_rfl) (by kernel_rfl) (by kernel_rfl) (by kernel_rfl) (fun _ _ _ h => h) (by kernel_rfl) hClosed (Or.inl ⟨by rfl, ?_⟩) hHeld (fun hClosed => ?_)
        rotate_left
        · intro wv hSw; go_simp; all_goals (with_reducible rfl)
        (try simp only [List.getElem_toArray, List.getElem_cons_succ, List.getElem_cons_zero, put_at, List.set])
        refine wpAnyL_take (i := 14) (v := ?_) rfl (by kernel_rfl) (by kernel_rfl) (by kernel_rfl) (by kernel_rfl) (fun _ _ _ h => h) (by kernel_rfl) hClosed (Or.inl ⟨by rfl, ?_⟩) hHeld (fun hClosed => ?_)
        rotate_left
        · intro wv hSw; go_simp; all_goals (with_reducible rfl)
        (try simp only [List.getElem_toArray, List.getElem_cons_succ, List.getElem_cons_zero, put_at, List.set])
        refine wpAnyL_last rfl (by kernel_rfl) (by kernel_rfl) (fun KK hK => ?_)
        go_simp
        refine hK.out _ _ ?_
        (try simp only [put_at, List.set])
        go_wp2_with fail
        go_meet
        exact ⟨rfl, Lib.hid hHeld⟩
      case rest =>
      obtain ⟨rfl, HBC⟩ := hcut
      have HB2 := Lib.hid (HB.out.trans (HBC.out.mono HB.out.size))
      have HP5 := Lib.hid (HO5.out.later HBC.out)
      have HP6 := Lib.hid (HO6.out.later HBC.out)
      have HP7 := Lib.hid (HO7.out.later HBC.out)
      clear HB HO5 HO6 HO7 HBC hW hbs
      by_cases hov : 1100 < W
      · have hd3 : decide (1100 < W) = true := decide_eq_true hov
        have HGN := Lib.hid (goodR_no HRK.out (fun hs => by have := HSW.out hs; omega))
        go_wp2_with fail
        go_roundw
        case rel => exact ⟨k + 1, g5, c5, m, g6, c6, q, g7, c7, by omega, by go_num, rfl, rfl, rfl, by omega, by omega, n56, n57, n67, by rw [HGN.out]; exact HQ, by rw [HGN.out]; exact HM, by rw [HGN.out]; exact HP5, by rw [HGN.out]; exact HP6, by rw [HGN.out]; exact HP7, HB2⟩
        case measure => simp [intOf]; omega
      · have hd3 : decide (1100 < W) = false := decide_eq_false hov
        have hb' := HB2.out
        have hbs := hb'.size
        have cc := fun (j : Nat) (v : Value) (hv : (recL r)[j]? = some v) => (hb'.cell (World.block_lt_of_cell? _ _ (HC.out k r HRK.out j v hv))).trans (HC.out k r HRK.out j v hv)
        have e0 := cc 0 _ rfl
        rw [Nat.add_zero] at e0
        have e1 := cc 1 _ rfl
        have e2 := cc 2 _ rfl
        have e3 := cc 3 _ rfl
        have e4 := cc 4 _ rfl
        have e5 := cc 5 _ rfl
        clear cc hb'
        by_cases hs : soundR r
        · obtain ⟨E, hE⟩ : ∃ E, encR r = E := ⟨_, rfl⟩
          obtain ⟨n, hn⟩ : ∃ n, E.length = n := ⟨_, rfl⟩
          have hnl : n ≤ 1050 := by rw [← hn, ← hE]; exact encR_le hs
          have hG := goodR_yes HRK.out hs
          have HE := Lib.hid hE
          have HN := Lib.hid hn
          have HG := Lib.hid hG
          have HF : Hid (flatR (goodR rs (k + 1)) = flatR (goodR rs k) ++ E) := Lib.hid (by rw [hG, flatR_snoc, hE])
          have HM2 : Hid (m + n = (flatR (goodR rs (k + 1))).length) := Lib.hid (by rw [HF.out, List.length_append, ← HM.out, hn])
          have HQ2 : Hid (q + 1 = (goodR rs (k + 1)).length) := Lib.hid (by rw [hG, List.length_append, ← HQ.out]; rfl)
          clear hE hn hG
          go_wp2_with fail
          refine (enc_as r E n HE.out HN.out _ hs).mono ?_
          rintro e w1 ⟨gE, cE, rfl, hoE, hb1⟩
          have B1 := HB2.out.trans (hb1.mono hbs)
          have hbs1 := B1.size
          have q5 := HP5.out.later hb1
          have q6 := HP6.out.later hb1
          have q7 := HP7.out.later hb1
          have hcc := fun (j : Nat) (v : Value) (hv : (recL r)[j]? = some v) => (B1.cell (World.block_lt_of_cell? _ _ (HC.out k r HRK.out j v hv))).trans (HC.out k r HRK.out j v hv)
          have HCC := Lib.hid hcc
          have l5 := q5.lt.2
          have l6 := q6.lt.2
          have l7 := q7.lt.2
          clear e0 e1 e2 e3 e4 e5 HP5 HP6 HP7 HB2 hcc
          go_wp2_with (first
            | (at_builtin; refine wpList_appP rfl _ _ 27 rfl w.heap.size 5 i0 _ 1 1 Try.underlying27 hi0 hz0 hz1 hz2 rfl (by decide) g5 c5 m _ rfl q5 ⟨gE, 0, none⟩ n cE (E.map (Value.int .u8)) rfl (by rw [List.length_map, HN.out, Nat.mul_one]) (cell_news (fun j v hv => by
                rw [List.getElem?_map] at hv
                cases hc : E[j]? with
                | none => rw [hc] at hv; cases hv
                | some c0 =>
                  rw [hc] at hv
                  injection hv with hv
                  rw [← hv]
                  have := hoE.rd.cells j c0 hc
                  rwa [Nat.zero_add] at this)) (bytes_one E) (by unfold maxLen; omega) (by omega) hbs1 ?_
               intro h5 d5 w5 p5 gr5 lc5 bb5
               have B5 := B1.trans bb5
               have s5 := B5.size
               have z5 := gr5.size
               have p6 := q6.kept gr5 (by omega)
               have p7 := q7.kept gr5 (by omega)
               have k5 := p5.lt.2
               have k6 := p6.lt.2
               have k7 := p7.lt.2
               have cc := fun (j : Nat) (v : Value) (hv : (recL r)[j]? = some v) => (B5.cell (World.block_lt_of_cell? _ _ (HC.out k r HRK.out j v hv))).trans (HC.out k r HRK.out j v hv)
               have e0 := cc 0 _ rfl
               rw [Nat.add_zero] at e0
               have e1 := cc 1 _ rfl
               have e2 := cc 2 _ rfl
               have e3 := cc 3 _ rfl
               have e4 := cc 4 _ rfl
               have e5 := cc 5 _ rfl
               clear cc)
            | (at_builtin; refine wpList_appP rfl _ _ 32 rfl w.heap.size 25 r0' _ 6 64 Try.underlying32 hr0 hx0 hx1 hx2 rfl (by decide) g7 c7 q _ rfl (p7.alloc (.cells (recL r).toArray 25)) ⟨w5.heap.size, 0, none⟩ 1 1 (recL r) rfl rfl (cells_new w5 (recL r) 25) (recL_one r) (by unfold maxLen; omega) (by omega) (by simp; omega) ?_
               intro h7 d7 w7 p7' gr7 lc7 bb7
               have z7 := gr7.size
               rw [World.size_alloc] at z7 lc7
               have B7 := (B5.alloc s5 (.cells (recL r).toArray 25)).trans bb7
               have s7 := B7.size
               have p5' := (p5.alloc (.cells (recL r).toArray 25)).kept gr7 (by omega)
               have p6' := (p6.alloc (.cells (recL r).toArray 25)).kept gr7 (by omega)
               have k5' := p5'.lt.2
               have k6' := p6'.lt.2
               have k7' := p7'.lt.2
               clear e0 e1 e2 e3 e4 e5)
            | (at_builtin; refine wpList_appP rfl _ _ 41 rfl w.heap.size 3 j0 _ 1 8 Try.underlying41 hj0 hy0 hy1 hy2 rfl (by decide) g6 c6 q _ rfl (p6'.alloc (.cells #[.int .i64 ((m : Int) + (n : Int))] 3)) ⟨w7.heap.size, 0, none⟩ 1 1 [.int .i64 ((m : Int) + (n : Int))] rfl rfl (cells_new w7 [.int .i64 ((m : Int) + (n : Int))] 3) (by simp [Value.oneCell']) (by unfold maxLen; omega) (by omega) (by simp; omega) ?_
               intro h6 d6 w6 p6'' gr6 lc6 bb6
               have z6 := gr6.size
               rw [World.size_alloc] at z6 lc6
               have B6 := (B7.alloc s7 (.cells #[.int .i64 ((m : Int) + (n : Int))] 3)).trans bb6
               have p5'' := (p5'.alloc (.cells #[.int .i64 ((m : Int) + (n : Int))] 3)).kept gr6 (by omega)
               have p7'' := (p7'.alloc (.cells #[.int .i64 ((m : Int) + (n : Int))] 3)).kept gr6 (by omega)))
          have f5 : OwnP w6 w.heap.size 5 1 h5 d5 (m + n) ((flatR (goodR rs (k + 1))).map (Value.int .u8)) := by rw [HF.out, List.map_append]; exact p5''
          have f6 : OwnP w6 w.heap.size 3 1 h6 d6 (q + 1) ((endsL (goodR rs (k + 1))).map (Value.int .i64)) := by
            have e2 : ((flatR (goodR rs k ++ [r])).length : Int) = (m : Int) + (n : Int) := by
              have h1 := HM2.out
              rw [HG.out] at h1
              omega
            rw [HG.out, endsL_snoc, e2, List.map_append]
            exact p6''
          have f7 : OwnP w6 w.heap.size 25 6 h7 d7 (q + 1) (flatC (goodR rs (k + 1))) := by
            rw [HG.out, flatC_append]
            have e3 : flatC [r] = recL r := by simp [flatC]
            rw [e3]
            exact p7''
          have F5 := Lib.hid f5
          have F6 := Lib.hid f6
          have F7 := Lib.hid f7
          have FB := Lib.hid B6
          clear f5 f6 f7 p5 p6 p7 p5' p6' p7' p5'' p6'' p7'' q5 q6 q7
          go_roundw
          case rel => exact ⟨k + 1, h5, d5, m + n, h6, d6, q + 1, h7, d7, by omega, by go_num, rfl, rfl, rfl, by omega, by omega, by omega, by omega, by omega, HQ2, HM2, F5, F6, F7, FB⟩
          case measure => simp [intOf]; omega
        · have HGN := Lib.hid (goodR_no HRK.out hs)
          go_wp2_with fail
          refine (enc_no r _ hs).mono ?_
          rintro e w1 ⟨rfl, hb1⟩
          have HB3 := Lib.hid (HB2.out.trans (hb1.mono hbs))
          have HR5 := Lib.hid (HP5.out.later hb1)
          have HR6 := Lib.hid (HP6.out.later hb1)
          have HR7 := Lib.hid (HP7.out.later hb1)
          clear HB2 HP5 HP6 HP7 hb1 hbs e0 e1 e2 e3 e4 e5
          go_wp2_with fail
          go_roundw
          case rel => exact ⟨k + 1, g5, c5, m, g6, c6, q, g7, c7, by omega, by go_num, rfl, rfl, rfl, by omega, by omega, n56, n57, n67, by rw [HGN.out]; exact HQ, by rw [HGN.out]; exact HM, by rw [HGN.out]; exact HR5, by rw [HGN.out]; exact HR6, by rw [HGN.out]; exact HR7, HB3⟩
          case measure => simp [intOf]; omega
    | false =>
      have hs1 : ∀ r ∈ goodR rs k, soundR r ∧ FitR r := fun r hr => ⟨(goodR_sound hr).1, (HOK.out r (goodR_sound hr).2).fit⟩
      obtain ⟨G, hG⟩ : ∃ G, goodR rs k = G := ⟨_, rfl⟩
      rw [hG] at HQ HM HO5 HO6 HO7 hs1
      obtain ⟨kk, hkk⟩ : ∃ kk : Nat, tc % ((m : Int) + 1) = kk := ⟨(tc % ((m : Int) + 1)).toNat, by have := Int.emod_nonneg tc (show (m : Int) + 1 ≠ 0 by omega); omega⟩
      have hkm : kk ≤ m := by have := Int.emod_lt_of_pos tc (show (0 : Int) < (m : Int) + 1 by omega); omega
      have hkt : Int.tmod tc ((m : Int) + 1) = kk := by rw [Int.tmod_eq_emod_of_nonneg htc0, hkk]
      obtain ⟨mm, hmm1, hmm2, hmm3⟩ := cut_count G kk
      obtain ⟨nn, hnn⟩ : ∃ nn, (flatR (G.take mm)).length = nn := ⟨_, rfl⟩
      have hsc := scanned_cut hs1 (by rw [← HM.out]; exact hkm) hmm1 hmm2 hmm3
      rw [hnn] at hsc hmm2
      have hmq : mm ≤ q := by rw [HQ.out]; exact hmm1
      have HSC := Lib.hid hsc
      have HM3 : Hid (mm = q ∨ kk < (flatR (G.take (mm + 1))).length) := Lib.hid (by rw [HQ.out]; exact hmm3)
      have HTM : Hid ((G.take mm).length = mm) := Lib.hid (by rw [List.length_take]; omega)
      have HNN := Lib.hid hnn
      have HTK : Hid (((flatR G).take kk).length = kk) := Lib.hid (by rw [List.length_take, ← HM.out]; omega)
      have HBY : Hid (Byts ((flatR G).take kk)) := Lib.hid ((flat_bytes (fun r hr => (hs1 r hr).1)).take kk)
      have HR5 : Hid (RdB wr (some ⟨g5, 0, none⟩) (flatR G)) := Lib.hid (Or.inr ⟨g5, 0, rfl, fun i c hi => by
        rw [Nat.zero_add]
        exact HO5.out.cell i _ (by rw [List.getElem?_map, hi]; rfl)⟩)
      have hc5 := HO5.out.cap_le
      have hc6 := HO6.out.cap_le
      have hc7 := HO7.out.cap_le
      have hkc : (kk : Int) ≤ (c5 : Int) := by omega
      have hkcn : kk ≤ c5 := by omega
      have hw1 : IntKind.i64.wrap ((m : Int) + 1) = (m : Int) + 1 := by rw [IntKind.wrap_i64]; omega
      clear hG hs1 hkk hmm1 hmm3 hnn hsc htb HO5 hw1
      go_wp2_with fail
      refine (scan_as _ (G.take mm) nn mm HSC.out HTM.out kk _ _ _ HTK.out (HR5.out.take kk) HBY.out hkcn (by omega) (Or.inr ⟨_, _, rfl⟩)).mono ?_
      rintro e w2 ⟨a2, c2, rfl, hr2, hk2, hb2⟩
      have HB2 := Lib.hid (HB.out.trans (hb2.mono hbs))
      have HP6 := Lib.hid (HO6.out.later hb2)
      have HP7 := Lib.hid (HO7.out.later hb2)
      obtain ⟨b2, o2, ha2, hc2⟩ : ∃ b off, (0 < mm → a2 = some ⟨b, off, none⟩) ∧ ∀ i r, (G.take mm)[i]? = some r → ∀ j v, (recL r)[j]? = some v → w2.cell? ⟨b, off + i * 6 + j, none⟩ = some v := by
        rcases hr2 with h | ⟨b, off, ha, hc⟩
        · exact ⟨0, 0, fun h0 => by have := HTM.out; rw [h] at this; simp at this; omega, fun i r hi => by rw [h] at hi; simp at hi⟩
        · exact ⟨b, off, fun _ => ha, hc⟩
      have HA2 := Lib.hid ha2
      have HC2 := Lib.hid hc2
      clear HB HO6 HO7 hb2 hbs hr2 ha2 hc2 HR5
      have HEV : Hid (∀ j, j < q → w2.cell? ⟨g6, j, none⟩ = some (.int .i64 ((flatR (G.take (j + 1))).length : Int))) := Lib.hid (fun j hj => HP6.out.cell j _ (by rw [List.getElem?_map, endsL_at (by rw [← HQ.out]; exact hj)]; rfl))
      go_wp2_with fail
      go_loop [14] (fun v => ∃ j : Nat, j ≤ mm ∧ v = .int .i64 j) (fun v => mm - (intOf v).toNat)
      case atStart => exact ⟨0, by omega, rfl⟩
      case round =>
        obtain ⟨j, hj, rfl⟩ := hrel
        by_cases hjm : j < mm
        · have hd1 : decide ((j : Int) < q) = true := decide_eq_true (by omega)
          have hcell := HEV.out j (by omega)
          have hfl : (flatR (G.take (j + 1))).length ≤ kk := by have := flat_mono G (show j + 1 ≤ mm by omega); rw [HNN.out] at this; omega
          generalize (flatR (G.take (j + 1))).length = en at *
          have hd2 : decide ((en : Int) ≤ kk) = true := decide_eq_true (by omega)
          have hj0 : (0 : Int) ≤ (j : Int) := by omega
          have hjq : (j : Int) < (q : Int) := by omega
          go_wp2_with fail
          go_round
          case rel => exact ⟨j + 1, by omega, by go_num⟩
          case measure => simp [intOf]; omega
        · obtain rfl : j = mm := by omega
          go_upto_region 16 with fail
          go_cut [94] (fun v wx => v = .bool false ∧ w2 = wx)
          case first =>
            by_cases hjq : j < q
            · have hd1 : decide ((j : Int) < q) = true := decide_eq_true (by omega)
              have hcell := HEV.out j hjq
              have hfl : kk < (flatR (G.take (j + 1))).length := HM3.out.resolve_left (by omega)
              generalize (flatR (G.take (j + 1))).length = en at *
              have hd2 : decide ((en : Int) ≤ kk) = false := decide_eq_false (by omega)
              have hd3 : decide (en ≤ kk) = false := decide_eq_false (by omega)
              have hj0 : (0 : Int) ≤ (j : Int) := by omega
              have hjq : (j : Int) < (q : Int) := by omega
              go_wp2_with fail
              go_meet
              exact ⟨rfl, rfl⟩
            · have hd1 : decide ((j : Int) < q) = false := decide_eq_false (by omega)
              go_wp2_with fail
              go_meet
              exact ⟨rfl, rfl⟩
          case rest =>
          obtain ⟨rfl, rfl⟩ := hcut
          go_upto_region 18 with fail
          go_cut [121] (fun v wx => v = .bool false ∧ w2 = wx)
          case first =>
            have hd1 : ((j : Int) != (j : Int)) = false := by simp
            by_cases hj0 : j = 0
            · have hn0 : nn = 0 := by rw [← HNN.out, hj0]; rfl
              have hd2 : decide ((0 : Int) < (j : Int)) = false := decide_eq_false (by omega)
              have hd2' : decide (0 < j) = false := decide_eq_false (by omega)
              have hd3 : ((j : Int) == 0) = true := by simp [hj0]
              have hd4 : ((nn : Int) != 0) = false := by simp [hn0]
              clear hj0 hn0
              go_wp2_with fail
              go_meet
              exact ⟨rfl, rfl⟩
            · have hd2 : decide ((0 : Int) < (j : Int)) = true := decide_eq_true (by omega)
              have hd2' : decide (0 < j) = true := decide_eq_true (by omega)
              have hd3 : ((j : Int) == 0) = false := by simp [hj0]
              obtain ⟨i, hi⟩ : ∃ i, j = i + 1 := ⟨j - 1, by omega⟩
              have hji : (j : Int) - 1 = (i : Int) := by omega
              have hcell := HEV.out i (by omega)
              have hen : (flatR (G.take (i + 1))).length = nn := by rw [← hi, HNN.out]
              rw [hen] at hcell
              have hd4 : ((nn : Int) != (nn : Int)) = false := by simp
              have hi0 : (0 : Int) ≤ (i : Int) := by omega
              have hiq : (i : Int) < (q : Int) := by omega
              clear hi hen
              go_wp2_with fail
              go_meet
              exact ⟨rfl, rfl⟩
          case rest =>
          obtain ⟨rfl, rfl⟩ := hcut
          go_wp2_with fail
          go_loopw [15] (fun v wx => ∃ i : Nat, i ≤ j ∧ v = .int .i64 i ∧ Hid (Below w2.heap.size w2 wx)) (fun v _ => j - (intOf v).toNat)
          case atStart => exact ⟨0, by omega, rfl, Lib.hid (Below.refl _ _)⟩
          case round =>
            obtain ⟨i, hi, rfl, HBW⟩ := hrel
            by_cases hij : i < j
            · have hd1 : decide ((i : Int) < j) = true := decide_eq_true (by omega)
              have ha := HA2.out (by omega)
              subst ha
              obtain ⟨r, hr⟩ : ∃ r, G[i]? = some r := ⟨_, List.getElem?_eq_getElem (by rw [← HQ.out]; omega)⟩
              have HR := Lib.hid hr
              have HRT : Hid ((G.take j)[i]? = some r) := Lib.hid (by rw [List.getElem?_take, if_pos hij, hr])
              have hi0 : (0 : Int) ≤ (i : Int) := by omega
              have hij2 : (i : Int) < (j : Int) := by omega
              have hiq : (i : Int) < (q : Int) := by omega
              clear hr
              go_wp2_with fail
              refine wp_region_last 8 (fun w' => Below wr.heap.size wr w') (by kernel_rfl) (Below.drew (Below.refl _ _)) (fun hHeld hClosed => ?_)
              refine wpAnyL_take (i := 0) (v := ?_) rfl (by kernel_rfl) (by kernel_rfl) (by kernel_rfl) (by kernel_rfl) (fun _ _ _ h => h) (by kernel_rfl) hClosed (Or.inl ⟨by rfl, ?_⟩) hHeld (fun hClosed => ?_)
              rotate_left
              · intro wv hSw; go_simp; all_goals (with_reducible rfl)
              (try simp only [List.getElem_toArray, List.getElem_cons_zero, put_at, List.set])
              refine wpAnyL_take (i := 1) (v := ?_) rfl (by kernel_rfl) (by kernel_rfl) (by kernel_rfl) (by kernel_rfl) (fun _ _ _ h => h) (by kernel_rfl) hClosed (Or.inl ⟨by rfl, ?_⟩) hHeld (fun hClosed => ?_)
              rotate_left
              · intro wv hSw; go_simp; all_goals (with_reducible rfl)
              (try simp only [List.getElem_toArray, List.getElem_cons_succ, List.getElem_cons_zero, put_at, List.set])
              refine wpAnyL_take (i := 2) (v := ?_) rfl (by kernel_rfl) (by kernel_rfl) (by kernel_rfl) (by kernel_rfl) (fun _ _ _ h => h) (by kernel_rfl) hClosed (Or.inl ⟨by rfl, ?_⟩) hHeld (fun hClosed => ?_)
              rotate_left
              · intro wv hSw; go_simp; all_goals (with_reducible rfl)
              (try simp only [List.getElem_toArray, List.getElem_cons_succ, List.getElem_cons_zero, put_at, List.set])
              refine wpAnyL_take (i := 3) (v := ?_) rfl (by kernel_rfl) (by kernel_rfl) (by kernel_rfl) (by kernel_rfl) (fun _ _ _ h => h) (by kernel_rfl) hClosed (Or.inl ⟨by rfl, ?_⟩) hHeld (fun hClosed => ?_)
              rotate_left
              · intro wv hSw; have hb' := HBW.out.trans (hSw.mono HBW.out.size); have cc := fun (j : Nat) (v : Value) (hv : (recL r)[j]? = some v) => (hb'.cell (World.block_lt_of_cell? _ _ (HC2.out i r HRT.out j v hv))).trans (HC2.out i r HRT.out j v hv); have e0 := cc 0 _ rfl; rw [Nat.add_zero] at e0; have e1 := cc 1 _ rfl; have e2 := cc 2 _ rfl; have e3 := cc 3 _ rfl; have e4 := cc 4 _ rfl; have e5 := cc 5 _ rfl; clear cc; have dd := fun (j : Nat) (v : Value) (hj : j < 6) (hv : (recL r)[j]? = some v) => (hb'.cell (p := ⟨g7, i * 6 + j, none⟩) HP7.out.lt.2).trans (HP7.out.cell (i * 6 + j) v (by rw [flatC_at hj HR.out]; exact hv)); have x0 := dd 0 _ (by decide) rfl; rw [Nat.add_zero] at x0; have x1 := dd 1 _ (by decide) rfl; have x2 := dd 2 _ (by decide) rfl; have x3 := dd 3 _ (by decide) rfl; have x4 := dd 4 _ (by decide) rfl; have x5 := dd 5 _ (by decide) rfl; clear dd hb'; go_simp; all_goals (with_reducible rfl)
              (try simp only [List.getElem_toArray, List.getElem_cons_succ, List.getElem_cons_zero, put_at, List.set])
              refine wpAnyL_take (i := 4) (v := ?_) rfl (by kernel_rfl) (by kernel_rfl) (by kernel_rfl) (by kernel_rfl) (fun _ _ _ h => h) (by kernel_rfl) hClosed (Or.inl ⟨by rfl, ?_⟩) hHeld (fun hClosed => ?_)
              rotate_left
              · intro wv hSw; go_simp; all_goals (with_reducible rfl)
              (try simp only [List.getElem_toArray, List.getElem_cons_succ, List.getElem_cons_zero, put_at, List.set])
              refine wpAnyL_take (i := 5) (v := ?_) rfl (by kernel_rfl) (by kernel_rfl) (by kernel_rfl) (by kernel_rfl) (fun _ _ _ h => h) (by kernel_rfl) hClosed (Or.inl ⟨by rfl, ?_⟩) hHeld (fun hClosed => ?_)
              rotate_left
              · intro wv hSw; go_simp; all_goals (with_reducible rfl)
              (try simp only [List.getElem_toArray, List.getElem_cons_succ, List.getElem_cons_zero, put_at, List.set])
              refine wpAnyL_take (i := 6) (v := ?_) rfl (by kernel_rfl) (by kernel_rfl) (by kernel_rfl) (by kernel_rfl) (fun _ _ _ h => h) (by kernel_rfl) hClosed (Or.inl ⟨by rfl, ?_⟩) hHeld (fun hClosed => ?_)
              rotate_left
              · intro wv hSw; go_simp; all_goals (with_reducible rfl)
              (try simp only [List.getElem_toArray, List.getElem_cons_succ, List.getElem_cons_zero, put_at, List.set])
              refine wpAnyL_take (i := 7) (v := ?_) rfl (by kernel_rfl) (by kernel_rfl) (by kernel_rfl) (by kernel_rfl) (fun _ _ _ h => h) (by kernel_rfl) hClosed (Or.inl ⟨by rfl, ?_⟩) hHeld (fun hClosed => ?_)
              rotate_left
              · intro wv hSw; have hb' := HBW.out.trans (hSw.mono HBW.out.size); have cc := fun (j : Nat) (v : Value) (hv : (recL r)[j]? = some v) => (hb'.cell (World.block_lt_of_cell? _ _ (HC2.out i r HRT.out j v hv))).trans (HC2.out i r HRT.out j v hv); have e0 := cc 0 _ rfl; rw [Nat.add_zero] at e0; have e1 := cc 1 _ rfl; have e2 := cc 2 _ rfl; have e3 := cc 3 _ rfl; have e4 := cc 4 _ rfl; have e5 := cc 5 _ rfl; clear cc; have dd := fun (j : Nat) (v : Value) (hj : j < 6) (hv : (recL r)[j]? = some v) => (hb'.cell (p := ⟨g7, i * 6 + j, none⟩) HP7.out.lt.2).trans (HP7.out.cell (i * 6 + j) v (by rw [flatC_at hj HR.out]; exact hv)); have x0 := dd 0 _ (by decide) rfl; rw [Nat.add_zero] at x0; have x1 := dd 1 _ (by decide) rfl; have x2 := dd 2 _ (by decide) rfl; have x3 := dd 3 _ (by decide) rfl; have x4 := dd 4 _ (by decide) rfl; have x5 := dd 5 _ (by decide) rfl; clear dd hb'; go_simp; all_goals (with_reducible rfl)
              (try simp only [List.getElem_toArray, List.getElem_cons_succ, List.getElem_cons_zero, put_at, List.set])
              refine wpAnyL_last rfl (by kernel_rfl) (by kernel_rfl) (fun KK hK => ?_)
              go_simp
              refine hK.out _ _ ?_
              (try simp only [put_at, List.set])
              go_wp2_with fail
              go_roundw
              case rel => exact ⟨i + 1, by omega, by go_num, Lib.hid (HBW.out.trans (hHeld.mono HBW.out.size))⟩
              case measure => simp [intOf]; omega
            · have hd1 : decide ((i : Int) < j) = false := decide_eq_false (by omega)
              go_wp2_with fail
              refine (awake14 _).mono ?_
              rintro e w3 ⟨rfl, hb3⟩
              have B2 := HB2.out.trans (HBW.out.mono HB2.out.size)
              go_wp2_with fail
              go_ret
              exact ⟨rfl, B2.trans (hb3.mono B2.size)⟩
end Go.Proofs.Ytndgpdpabjaedaa
