/- Package robots: Read, the walk. -/
import Derived.Test.YtodlecjbpmggiaaGreatDoorRbMg
/- Package robots: Pick. -/
namespace Go.Proofs.YtodlecjbpmggiaaGreatDoor
open Go Go.RowKit
set_option linter.unusedVariables false
set_option linter.unusedSimpArgs false
set_option maxRecDepth 10000

theorem eg1 : ∀ args w, (callFunc 31 args).run Tryz.prog w = .ok (.enter 31 args) w := enters_of Tryz.func31 (by kernel_rfl) rfl
theorem eg2 : ∀ args w, (callFunc 32 args).run Tryz.prog w = .ok (.enter 32 args) w := enters_of Tryz.func32 (by kernel_rfl) rfl
theorem meant1 (tk : List Int) (ht : Byts tk) (g : Nat) (w : World) (hb : Box w g #[.string (strL tk)] 9) : Meant w 31 #[.pointer (some ⟨g, 0, none⟩)] (mineB tk) NmOk :=
  fun z W hz hW => pick1_at z tk hz ht g W (hb.later hW)
theorem meant2 (w : World) : Meant w 32 #[] starB NmOk := fun z W hz _ => pick2_at z hz W
theorem pickF_sum (p : List Int → Bool) (gs : List Gp) : ((pickF p gs).flatMap (·.ru)).length ≤ (gs.flatMap (·.ru)).length := by
  unfold pickF
  induction gs with
  | nil => simp
  | cons x t ih =>
    rw [List.filter_cons]
    split
    · simp only [List.flatMap_cons, List.length_append]; omega
    · simp only [List.flatMap_cons, List.length_append]; omega
theorem pickF_len (p : List Int → Bool) (gs : List Gp) : (pickF p gs).length ≤ gs.length := List.length_filter_le _ _
/-- What is stored into the result's own cells is what is handed back. -/
theorem rb_fin (r : Rb) (w w4 : World) (hR : Box w4 w.heap.size #[.bool false, .bool false, .slice none 0 0, .int .i64 0] 26) (hB : Below w.heap.size w w4) (a5 : Option Addr) (c5 : Nat) (w5 : World) (h5 : RdC w5 a5 (ruC r.ru)) (l5 : r.ru.length ≤ c5) (l6 : c5 ≤ 9223372036854775807) (k5 : ∀ g, a5 = some ⟨g, 0, none⟩ → w4.heap.size ≤ g) (hb5 : Below w4.heap.size w4 w5) :
    w5.cell? ⟨w.heap.size, 0, none⟩ = some (.bool false) ∧ w5.cell? ⟨w.heap.size, 1, none⟩ = some (.bool false) ∧ w5.cell? ⟨w.heap.size, 2, none⟩ = some (.slice none 0 0) ∧ w5.cell? ⟨w.heap.size, 3, none⟩ = some (.int .i64 0) ∧
    w5.frozen? ⟨w.heap.size, 0, none⟩ = false ∧ w5.frozen? ⟨w.heap.size, 1, none⟩ = false ∧ w5.frozen? ⟨w.heap.size, 2, none⟩ = false ∧ w5.frozen? ⟨w.heap.size, 3, none⟩ = false ∧ w.heap.size < w5.heap.size ∧
    Hid (∀ (u0 u1 u2 u3 : Value) (p0 p1 p2 p3 : Addr), p0.block = w.heap.size → p1.block = w.heap.size → p2.block = w.heap.size → p3.block = w.heap.size → RoP w r (.returned (.agg #[.bool r.all, .bool r.none_, .slice a5 r.ru.length c5, .int .i64 r.de])) ((((w5.setCell p0 u0).setCell p1 u1).setCell p2 u2).setCell p3 u3)) := by
  have R5 := hR.later hb5
  have B5 := hB.trans (hb5.mono hB.size)
  have hne : ∀ g, a5 = some ⟨g, 0, none⟩ → g ≠ w.heap.size := fun g hg => by have := k5 g hg; have := hR.lt; omega
  refine ⟨by rw [R5.cell 0]; rfl, by rw [R5.cell 1]; rfl, by rw [R5.cell 2]; rfl, by rw [R5.cell 3]; rfl, R5.free 0, R5.free 1, R5.free 2, R5.free 3, R5.lt, Lib.hid (fun u0 u1 u2 u3 p0 p1 p2 p3 e0 e1 e2 e3 => ?_)⟩
  exact ⟨a5, c5, rfl, (((h5.other (fun g hg => e0 ▸ hne g hg) _).other (fun g hg => e1 ▸ hne g hg) _).other (fun g hg => e2 ▸ hne g hg) _).other (fun g hg => e3 ▸ hne g hg) _, l5, l6,
    fun g hg => Nat.le_trans hB.size (k5 g hg), (((B5.setCell (by omega) _).setCell (by omega) _).setCell (by omega) _).setCell (by omega) _⟩
set_option maxHeartbeats 4000000 in
theorem pick_at (GA : List (Gp × GpA)) (n : Nat) (hn : GA.length = n) (hn2 : n ≤ 10000) (hsum : ((GA.map (·.1)).flatMap (·.ru)).length ≤ 100000) (hok : ∀ x ∈ GA, ∀ z ∈ x.1.ag, NmOk z) (a : Option Addr) (cap B : Nat) (w : World)
    (h : GsM 58 B w a cap GA) (hB : B ≤ w.heap.size) (agent : ByteArray) (hs : agent.size ≤ 1000000000000000) :
    Calls Tryz.prog 15 #[.slice a n cap, .string agent] w (RoP w (pickL (GA.map (·.1)) (tokL (btL agent)))) := by
  have TK := Lib.hid (fun W => token_at agent hs W)
  obtain ⟨tk, htk⟩ : ∃ tk, tokL (btL agent) = tk := ⟨_, rfl⟩
  have hbt : Byts tk := by rw [← htk]; exact tok_byts (btL_byts _)
  rw [htk] at TK ⊢
  have CH1 : Hid (∀ W g, Below w.heap.size w W → Box W g #[.string (strL tk)] 9 → Calls Tryz.prog 30 #[.slice a n cap, .func (.func 31) #[] #[.pointer (some ⟨g, 0, none⟩)]] W (ChP B W (GA.map (·.1)) (mineB tk))) := Lib.hid (fun W g hW hb =>
    choose_at GA n hn hn2 a cap B W (h.later hW) (Nat.le_trans hB hW.size) _ _ (mineB tk) NmOk eg1 hok (meant1 tk hbt g W hb))
  have CH2 : Hid (∀ W, Below w.heap.size w W → Calls Tryz.prog 30 #[.slice a n cap, .func (.func 32) #[] #[]] W (ChP B W (GA.map (·.1)) starB)) := Lib.hid (fun W hW =>
    choose_at GA n hn hn2 a cap B W (h.later hW) (Nat.le_trans hB hW.size) _ _ starB NmOk eg2 hok (meant2 W))
  have MG : Hid (∀ (GB : List (Gp × GpA)) (p : List Int → Bool) (m : Nat), GB.length = m → GB.map (·.1) = pickF p (GA.map (·.1)) → ∀ a' cap' W, GsM 58 B W a' cap' GB → Calls Tryz.prog 33 #[.slice a' m cap'] W (RoP W (mergeL (pickF p (GA.map (·.1)))))) := Lib.hid (fun GB p m hm he a' cap' W hG => by
    have h1 := pickF_len p (GA.map (·.1))
    rw [← he, List.length_map, List.length_map] at h1
    have h2 := pickF_sum p (GA.map (·.1))
    have h3 := merge_at GB m hm (by omega) (by rw [he]; omega) a' cap' B W hG
    rw [he] at h3
    exact h3)
  have PL : Hid (pickL (GA.map (·.1)) tk = if pickF (mineB tk) (GA.map (·.1)) = [] then mergeL (pickF starB (GA.map (·.1))) else mergeL (pickF (mineB tk) (GA.map (·.1)))) := Lib.hid rfl
  have RB := Lib.hid (Box.new w #[.bool false, .bool false, .slice none 0 0, .int .i64 0] 26)
  have B0 := Lib.hid ((Below.refl w.heap.size w).alloc (Nat.le_refl _) (.cells #[.bool false, .bool false, .slice none 0 0, .int .i64 0] 26))
  obtain ⟨ro, hro⟩ : ∃ ro, pickL (GA.map (·.1)) tk = ro := ⟨_, rfl⟩
  rw [hro] at PL ⊢
  obtain ⟨gs, hgs⟩ : ∃ gs, GA.map (·.1) = gs := ⟨_, rfl⟩
  rw [hgs] at CH1 CH2 MG PL
  clear hro hgs h hn hsum hok htk
  go_enter Tryz.func15, Tryz.ntmps15
  go_wp2_with fail
  refine (TK.out _).mono ?_
  rintro e w1 ⟨rfl, hb1⟩
  have R1 := Lib.hid (RB.out.later hb1)
  have B1 := Lib.hid (B0.out.trans (hb1.mono B0.out.size))
  have sz1 := B1.out.size
  have BX := Lib.hid (Box.new w1 #[.string (strL tk)] 9)
  have R2 := Lib.hid (R1.out.alloc (.cells #[.string (strL tk)] 9))
  have B2 := Lib.hid (B1.out.alloc sz1 (.cells #[.string (strL tk)] 9))
  clear hb1 TK RB B0
  go_upto_region 2 with fail
  obtain ⟨w2, hw2⟩ : ∃ W, w1.alloc (.cells #[.string (strL tk)] 9) = W := ⟨_, rfl⟩
  rw [hw2] at BX R2 B2
  rw [hw2]
  clear hw2
  go_wp2_with fail
  refine (CH1.out _ _ B2.out BX.out).mono ?_
  rintro e w3 ⟨a3, c3, G3, rfl, g3, e3, hb3⟩
  have R3 := Lib.hid (R2.out.later hb3)
  have B3 := Lib.hid (B2.out.trans (hb3.mono B2.out.size))
  have HG := Lib.hid g3
  have HE := Lib.hid e3
  clear g3 e3 hb3 R1 R2 B1 B2 BX
  obtain ⟨m, hm⟩ : ∃ m, G3.length = m := ⟨_, rfl⟩
  rw [hm]
  have HM := Lib.hid hm
  by_cases h0 : m = 0
  · subst h0
    have HP : Hid (ro = mergeL (pickF starB gs)) := Lib.hid (by
      rw [PL.out, if_pos]
      rw [← HE.out, List.length_eq_zero_iff.1 hm]
      rfl)
    clear hm
    go_wp2_with fail
    refine (CH2.out _ B3.out).mono ?_
    rintro e w4 ⟨a4, c4, G4, rfl, g4, e4, hb4⟩
    have R4 := Lib.hid (R3.out.later hb4)
    have B4 := Lib.hid (B3.out.trans (hb4.mono B3.out.size))
    have M4 := MG.out G4 starB _ rfl e4 a4 c4 w4 g4
    rw [← HP.out] at M4
    have M4 := Lib.hid M4
    have FN := Lib.hid (rb_fin ro w w4 R4.out B4.out)
    clear g4 e4 hb4
    go_wp2_with fail
    refine M4.out.mono ?_
    rintro e w5 ⟨a5, c5, rfl, r5, l5, l6, k5, hb5⟩
    obtain ⟨s0, s1, s2, s3, t0, t1, t2, t3, lS, FIN⟩ := FN.out a5 c5 w5 r5 l5 l6 k5 hb5
    clear r5 k5 hb5 FN M4 R3 R4
    go_wp2
    exact bodyPost_ret (v := .agg #[.bool ro.all, .bool ro.none_, .slice a5 ro.ru.length c5, .int .i64 ro.de]) (by simp [results, Tryz.results15, go_sem, s0, s1, s2, s3]) rfl (FIN.out _ _ _ _ _ _ _ _ rfl rfl rfl rfl)
  · have HP : Hid (ro = mergeL (pickF (mineB tk) gs)) := Lib.hid (by
      rw [PL.out, if_neg]
      intro hh
      rw [← HE.out] at hh
      have := congrArg List.length hh
      simp at this
      rw [this] at hm
      exact h0 hm.symm)
    have M4 := MG.out G3 (mineB tk) _ hm HE.out a3 c3 w3 HG.out
    rw [← HP.out] at M4
    have M4 := Lib.hid M4
    have FN := Lib.hid (rb_fin ro w w3 R3.out B3.out)
    have hd0 : decide ((m : Int) = 0) = false := decide_eq_false (by omega)
    clear hm
    go_wp2_with fail
    refine M4.out.mono ?_
    rintro e w5 ⟨a5, c5, rfl, r5, l5, l6, k5, hb5⟩
    obtain ⟨s0, s1, s2, s3, t0, t1, t2, t3, lS, FIN⟩ := FN.out a5 c5 w5 r5 l5 l6 k5 hb5
    clear r5 k5 hb5 FN M4 R3
    go_wp2
    exact bodyPost_ret (v := .agg #[.bool ro.all, .bool ro.none_, .slice a5 ro.ru.length c5, .int .i64 ro.de]) (by simp [results, Tryz.results15, go_sem, s0, s1, s2, s3]) rfl (FIN.out _ _ _ _ _ _ _ _ rfl rfl rfl rfl)
end Go.Proofs.YtodlecjbpmggiaaGreatDoor
/- Package robots: Read. -/
namespace Go.Proofs.YtodlecjbpmggiaaGreatDoor
open Go Go.RowKit
set_option linter.unusedVariables false
set_option linter.unusedSimpArgs false
set_option maxRecDepth 10000

def goneB (s : Int) : Bool := decide (400 ≤ s ∧ s < 500 ∧ s ≠ 429)
set_option maxHeartbeats 4000000 in
theorem class_at (s : Int) (w : World) : Calls Tryz.prog 17 #[.int .i64 s] w fun e w' => (∃ k : Int, e = .returned (.int .i64 k) ∧ decide (k = 2) = goneB s) ∧ Below w.heap.size w w' := by
  by_cases a0 : s = 429
  · have HK : Hid (decide ((3 : Int) = 2) = goneB s) := Lib.hid (by unfold goneB; rw [decide_eq_decide]; omega)
    have f0 : (s == 429) = true := by simp; omega
    go_enter Tryz.func17, Tryz.ntmps17
    go_wp2
    go_ret
    exact ⟨⟨3, rfl, HK.out⟩, Below.refl _ _⟩
  · skip
    by_cases a1 : s = 503
    · have HK : Hid (decide ((3 : Int) = 2) = goneB s) := Lib.hid (by unfold goneB; rw [decide_eq_decide]; omega)
      have f0 : (s == 429) = false := by simp; omega
      have f1 : (s == 503) = true := by simp; omega
      go_enter Tryz.func17, Tryz.ntmps17
      go_wp2
      go_ret
      exact ⟨⟨3, rfl, HK.out⟩, Below.refl _ _⟩
    · skip
      by_cases a2 : s < 200
      · have HK : Hid (decide ((4 : Int) = 2) = goneB s) := Lib.hid (by unfold goneB; rw [decide_eq_decide]; omega)
        have f0 : (s == 429) = false := by simp; omega
        have f1 : (s == 503) = false := by simp; omega
        have f2 : decide (200 ≤ s) = false := by simp; omega
        have f3 : decide (400 ≤ s) = false := by simp; omega
        go_enter Tryz.func17, Tryz.ntmps17
        go_wp2
        go_ret
        exact ⟨⟨4, rfl, HK.out⟩, Below.refl _ _⟩
      · skip
        by_cases a3 : s < 400
        · have HK : Hid (decide ((1 : Int) = 2) = goneB s) := Lib.hid (by unfold goneB; rw [decide_eq_decide]; omega)
          have f0 : (s == 429) = false := by simp; omega
          have f1 : (s == 503) = false := by simp; omega
          have f2 : decide (200 ≤ s) = true := by simp; omega
          have f3 : decide (s < 400) = true := by simp; omega
          go_enter Tryz.func17, Tryz.ntmps17
          go_wp2
          go_ret
          exact ⟨⟨1, rfl, HK.out⟩, Below.refl _ _⟩
        · skip
          by_cases a4 : s < 500
          · have HK : Hid (decide ((2 : Int) = 2) = goneB s) := Lib.hid (by unfold goneB; rw [decide_eq_decide]; omega)
            have f0 : (s == 429) = false := by simp; omega
            have f1 : (s == 503) = false := by simp; omega
            have f2 : decide (200 ≤ s) = true := by simp; omega
            have f3 : decide (s < 400) = false := by simp; omega
            have f4 : decide (400 ≤ s) = true := by simp; omega
            have f5 : decide (s < 500) = true := by simp; omega
            go_enter Tryz.func17, Tryz.ntmps17
            go_wp2
            go_ret
            exact ⟨⟨2, rfl, HK.out⟩, Below.refl _ _⟩
          · have HK : Hid (decide ((4 : Int) = 2) = goneB s) := Lib.hid (by unfold goneB; rw [decide_eq_decide]; omega)
            have f0 : (s == 429) = false := by simp; omega
            have f1 : (s == 503) = false := by simp; omega
            have f2 : decide (200 ≤ s) = true := by simp; omega
            have f3 : decide (s < 400) = false := by simp; omega
            have f4 : decide (400 ≤ s) = true := by simp; omega
            have f5 : decide (s < 500) = false := by simp; omega
            go_enter Tryz.func17, Tryz.ntmps17
            go_wp2
            go_ret
            exact ⟨⟨4, rfl, HK.out⟩, Below.refl _ _⟩
end Go.Proofs.YtodlecjbpmggiaaGreatDoor
/- Package robots: the groups of any lines keep the bounds that are asked for. No program here. -/
namespace Go.Proofs.YtodlecjbpmggiaaGreatDoor
open Go Go.RowKit
set_option linter.unusedVariables false
set_option linter.unusedSimpArgs false
set_option maxRecDepth 10000

theorem rb_lw_byts {l : List Int} (h : Byts l) : Byts (l.map lwI) := by
  intro c hc
  obtain ⟨x, hx, rfl⟩ := List.mem_map.1 hc
  have := h x hx
  unfold lwI
  split <;> omega
theorem rb_say_ok {p : List Int} {y : List Int × List Int} (h : sayL p = some y) (hb : Byts p) : Byts y.1 ∧ Byts y.2 ∧ y.1.length ≤ p.length ∧ y.2.length ≤ p.length := by
  unfold sayL at h
  split at h
  · split at h
    · cases h
    · injection h with h
      subst h
      have bt := hb.take (fi 35 p)
      have l1 := trL_len ((p.take (fi 35 p)).take (fi 58 (p.take (fi 35 p))))
      have l2 := trL_len ((p.take (fi 35 p)).drop (fi 58 (p.take (fi 35 p)) + 1))
      rw [List.length_take, List.length_take] at l1
      rw [List.length_drop, List.length_take] at l2
      dsimp only
      exact ⟨rb_lw_byts (bt.take _).tr, (bt.drop _).tr, by rw [List.length_map]; omega, by omega⟩
  · cases h
theorem rb_pcs_ok : ∀ (cur l : List Int), Byts cur → Byts l → ∀ p ∈ pcs cur l, Byts p ∧ p.length ≤ cur.length + l.length
  | cur, [], hc, _, p, hp => by
    rw [show pcs cur [] = [cur] from rfl] at hp
    rw [List.mem_singleton.1 hp]
    exact ⟨hc, by simp⟩
  | cur, c :: t, hc, hl, p, hp => by
    unfold pcs at hp
    split at hp
    · rcases List.mem_cons.1 hp with rfl | hp
      · exact ⟨hc, by simp⟩
      · have := rb_pcs_ok [] t Byts.nil hl.cons.2 p hp
        exact ⟨this.1, by have := this.2; simp at this ⊢; omega⟩
    · have := rb_pcs_ok (cur ++ [c]) t (hc.append (Byts.mk hl.cons.1 Byts.nil)) hl.cons.2 p hp
      exact ⟨this.1, by have := this.2; simp at this ⊢; omega⟩
theorem rb_lines_len (l : List Int) : (linesL l).length ≤ 5000 := by
  unfold linesL
  have h1 := List.length_filterMap_le sayL (pcs [] (limL l))
  have h2 := pcs_len [] (limL l)
  have h3 := (limL_len l).1
  omega
theorem rb_lines_ok {l : List Int} (h : Byts l) : LnOk (linesL l) := by
  intro x hx
  obtain ⟨p, hp, he⟩ := List.mem_filterMap.1 hx
  obtain ⟨k1, k2⟩ := rb_pcs_ok [] (limL l) Byts.nil (limL_byts h) p hp
  obtain ⟨m1, m2, m3, m4⟩ := rb_say_ok he k1
  have := (limL_len l).1
  simp at k2
  exact ⟨m1, m2, by omega, by omega⟩
/-- What holds of the groups so far. -/
structure GsK (s : List Gp × Option Gp × Bool) (k : Nat) : Prop where
  nm : ∀ g ∈ s.1 ++ s.2.1.toList, ∀ z ∈ g.ag, NmOk z
  len : (s.1 ++ s.2.1.toList).length ≤ k
  sum : ((s.1 ++ s.2.1.toList).flatMap (·.ru)).length ≤ k
theorem rb_app_len {g g' : Gp} {k v : List Int} (h : appG g k v = some g') : g'.ru.length ≤ g.ru.length + 1 := by
  unfold appG at h
  split at h
  · injection h with h
    rw [← h]
    split
    · simp
    · omega
  · split at h
    · injection h with h
      rw [← h]
      cases delL v <;> simp [delG]
    · cases h
theorem GsK.step {s : List Gp × Option Gp × Bool} {k : Nat} (h : GsK s k) (x : List Int × List Int) (hx : Byts x.2 ∧ x.2.length ≤ 1000000000000000) : GsK (grS s x) (k + 1) := by
  obtain ⟨d, c, t⟩ := s
  have hz : NmOk (x.2.map lwI) := ⟨rb_lw_byts hx.1, by rw [List.length_map]; exact hx.2⟩
  obtain ⟨h1, h2, h3⟩ := h
  dsimp only at h1 h2 h3
  have new : GsK (d ++ c.toList, some ⟨[x.2.map lwI], [], 0⟩, false) (k + 1) := by
    refine ⟨fun g hg z hzz => ?_, ?_, ?_⟩
    · dsimp only at hg
      rcases List.mem_append.1 hg with hg | hg
      · exact h1 g hg z hzz
      · simp at hg
        subst hg
        simp at hzz
        rw [hzz]
        exact hz
    · simp at h2 ⊢; omega
    · simp at h3 ⊢; omega
  have old : GsK (d, c, t) (k + 1) := ⟨h1, by dsimp only; omega, by dsimp only; omega⟩
  unfold grS
  dsimp only
  split
  · cases c with
    | none => exact new
    | some g =>
      cases t with
      | true => exact new
      | false =>
        refine ⟨fun g' hg z hzz => ?_, ?_, ?_⟩
        · dsimp only at hg
          rcases List.mem_append.1 hg with hg | hg
          · exact h1 g' (List.mem_append_left _ hg) z hzz
          · simp at hg
            subst hg
            rcases List.mem_append.1 hzz with hzz | hzz
            · exact h1 g (by simp) z hzz
            · rw [List.mem_singleton.1 hzz]
              exact hz
        · simp at h2 ⊢; omega
        · simp at h3 ⊢; omega
  · cases c with
    | none => exact old
    | some g =>
      dsimp only
      cases ha : appG g x.1 x.2 with
      | none => exact old
      | some g' =>
        have e1 := appG_ag ha
        have e2 := rb_app_len ha
        refine ⟨fun y hg z hzz => ?_, ?_, ?_⟩
        · dsimp only at hg
          rcases List.mem_append.1 hg with hg | hg
          · exact h1 y (List.mem_append_left _ hg) z hzz
          · simp at hg
            subst hg
            rw [e1] at hzz
            exact h1 g (by simp) z hzz
        · simp at h2 ⊢; omega
        · simp at h3 ⊢; omega
theorem GsK.fold : ∀ (L : List (List Int × List Int)) (s : List Gp × Option Gp × Bool) (k : Nat), LnOk L → GsK s k → GsK (L.foldl grS s) (k + L.length)
  | [], s, k, _, h => h
  | x :: t, s, k, hl, h => by
    have := GsK.fold t (grS s x) (k + 1) (fun y hy => hl y (by simp [hy])) (h.step x ⟨(hl x (by simp)).2.1, (hl x (by simp)).2.2.2⟩)
    rw [List.foldl_cons, List.length_cons]
    rw [show k + (t.length + 1) = k + 1 + t.length by omega]
    exact this
theorem grL_ok (L : List (List Int × List Int)) (h : LnOk L) : (∀ g ∈ grL L, ∀ z ∈ g.ag, NmOk z) ∧ (grL L).length ≤ L.length ∧ ((grL L).flatMap (·.ru)).length ≤ L.length := by
  have := GsK.fold L ([], none, true) 0 h ⟨fun g hg => by simp at hg, by simp, by simp⟩
  rw [Nat.zero_add] at this
  exact ⟨this.nm, this.len, this.sum⟩
end Go.Proofs.YtodlecjbpmggiaaGreatDoor
namespace Go.Proofs.YtodlecjbpmggiaaGreatDoor
open Go Go.RowKit
set_option linter.unusedVariables false
set_option linter.unusedSimpArgs false
set_option maxRecDepth 10000

set_option maxHeartbeats 4000000 in
theorem read_at (s : Int) (body agent : ByteArray) (hs : body.size ≤ 100000) (ha : agent.size ≤ 1000000000000000) (w : World) :
    Calls Tryz.prog 8 #[.int .i64 s, .string body, .string agent] w (RoP w (readL s (btL body) (btL agent))) := by
  obtain ⟨L, hL⟩ : ∃ L, linesL (btL body) = L := ⟨_, rfl⟩
  have hok : LnOk L := by rw [← hL]; exact rb_lines_ok (btL_byts _)
  have hlen : L.length ≤ 5000 := by rw [← hL]; exact rb_lines_len _
  have LP := Lib.hid (fun W => lparse_at body hs L hL W trivial)
  have GP : Hid (∀ W a cap n, L.length = n → Own W w.heap.size 35 2 a L.length cap (lnC L) → Calls Tryz.prog 16 #[.slice a n cap] W (GrP 58 L W)) := Lib.hid (fun W a cap n hn ho => groups_at L n hn (by omega) a cap hok W (rdLn_own ho rfl))
  have PK : Hid (∀ W B a cap (GA : List (Gp × GpA)) n, GA.length = n → GA.map (·.1) = grL L → GsM 58 B W a cap GA → B ≤ W.heap.size → Calls Tryz.prog 15 #[.slice a n cap, .string agent] W (RoP W (pickL (grL L) (tokL (btL agent))))) := Lib.hid (fun W B a cap GA n hn he hG hB => by
    obtain ⟨k1, k2, k3⟩ := grL_ok L hok
    have h1 : GA.length = (grL L).length := by rw [← he, List.length_map]
    have := pick_at GA n hn (by omega) (by rw [he]; omega) (fun x hx z hz => k1 x.1 (by rw [← he]; exact List.mem_map_of_mem hx) z hz) a cap B W hG hB agent ha
    rw [he] at this
    exact this)
  have RE : Hid (readL s (btL body) (btL agent) = if 200 ≤ s ∧ s < 300 then pickL (grL L) (tokL (btL agent)) else if 400 ≤ s ∧ s < 500 ∧ s ≠ 429 then ⟨true, false, [], 0⟩ else ⟨false, true, [], 0⟩) := Lib.hid (by rw [← hL]; rfl)
  obtain ⟨ro, hro⟩ : ∃ ro, readL s (btL body) (btL agent) = ro := ⟨_, rfl⟩
  rw [hro] at RE ⊢
  have RB := Lib.hid (Box.new w #[.bool false, .bool false, .slice none 0 0, .int .i64 0] 26)
  have B0 := Lib.hid ((Below.refl w.heap.size w).alloc (Nat.le_refl _) (.cells #[.bool false, .bool false, .slice none 0 0, .int .i64 0] 26))
  clear hro hok hL
  go_enter Tryz.func8, Tryz.ntmps8
  go_upto_region 1 with fail
  obtain ⟨w0, hw0⟩ : ∃ W, w.alloc (.cells #[.bool false, .bool false, .slice none 0 0, .int .i64 0] 26) = W := ⟨_, rfl⟩
  rw [hw0] at RB B0
  rw [hw0]
  clear hw0
  by_cases h1 : 200 ≤ s ∧ s < 300
  · have HP : Hid (ro = pickL (grL L) (tokL (btL agent))) := Lib.hid (by rw [RE.out, if_pos h1])
    have d1 : decide (200 ≤ s) = true := decide_eq_true h1.1
    have d2 : decide (s < 300) = true := decide_eq_true h1.2
    clear h1 RE
    go_wp2_with fail
    refine (LP.out _).mono ?_
    rintro e w1 ⟨a1, c1, rfl, o1, hb1⟩
    have R1 := Lib.hid (RB.out.later hb1)
    have B1 := Lib.hid (B0.out.trans (hb1.mono B0.out.size))
    have O1 := Lib.hid (o1.mono B0.out.size)
    obtain ⟨n, hn⟩ : ∃ n, L.length = n := ⟨_, rfl⟩
    have G1 := Lib.hid (GP.out w1 a1 c1 n hn O1.out)
    rw [hn]
    clear o1 hb1 RB B0 LP
    go_wp2_with fail
    refine G1.out.mono ?_
    rintro e w2 ⟨a2, c2, GA, rfl, g2, e2, hb2⟩
    have R2 := Lib.hid (R1.out.later hb2)
    have B2 := Lib.hid (B1.out.trans (hb2.mono B1.out.size))
    have P2 := PK.out w2 _ a2 c2 GA GA.length rfl e2 g2 hb2.size
    rw [← HP.out] at P2
    have P2 := Lib.hid P2
    have FN := Lib.hid (rb_fin ro w w2 R2.out B2.out)
    obtain ⟨m, hm⟩ : ∃ m, GA.length = m := ⟨_, rfl⟩
    rw [hm] at P2 ⊢
    clear g2 e2 hb2 R1 B1 O1 G1
    go_wp2_with fail
    refine P2.out.mono ?_
    rintro e w5 ⟨a5, c5, rfl, r5, l5, l6, k5, hb5⟩
    obtain ⟨s0, s1, s2, s3, t0, t1, t2, t3, lS, FIN⟩ := FN.out a5 c5 w5 r5 l5 l6 k5 hb5
    clear r5 k5 hb5 FN P2 R2
    go_wp2
    exact bodyPost_ret (v := .agg #[.bool ro.all, .bool ro.none_, .slice a5 ro.ru.length c5, .int .i64 ro.de]) (by simp [results, Tryz.results8, go_sem, s0, s1, s2, s3]) rfl (FIN.out _ _ _ _ _ _ _ _ rfl rfl rfl rfl)
  · have HP : Hid (ro = if goneB s = true then ⟨true, false, [], 0⟩ else ⟨false, true, [], 0⟩) := Lib.hid (by rw [RE.out, if_neg h1]; unfold goneB; simp only [decide_eq_true_eq])
    obtain ⟨q, hq⟩ : ∃ q : Bool, (decide (200 ≤ s) && decide (s < 300)) = q := ⟨_, rfl⟩
    have CL := Lib.hid (fun W => class_at s W)
    obtain ⟨g, hg⟩ : ∃ g, goneB s = g := ⟨_, rfl⟩
    rw [hg] at HP CL
    by_cases h2 : 200 ≤ s
    · have d1 : decide (200 ≤ s) = true := decide_eq_true h2
      have d2 : decide (s < 300) = false := decide_eq_false (by omega)
      clear h1 RE
      go_wp2_with fail
      refine (CL.out _).mono ?_
      rintro e w1 ⟨⟨k, rfl, hk⟩, hb1⟩
      have R1 := Lib.hid (RB.out.later hb1)
      have B1 := Lib.hid (B0.out.trans (hb1.mono B0.out.size))
      clear hb1 RB B0 CL
      cases g with
      | true =>
        obtain rfl : ro = ⟨true, false, [], 0⟩ := HP.out
        have hk2 : (k == 2) = true := hk
        obtain ⟨s0, s1, s2, s3, t0, t1, t2, t3, lS, FIN⟩ := rb_fin ⟨true, false, [], 0⟩ w w1 R1.out B1.out none 0 w1 (RdC.nil _ _) (Nat.le_refl _) (by omega) (fun g hg => by cases hg) (Below.refl _ _)
        clear R1 B1 HP hk
        go_wp2
        exact bodyPost_ret (v := .agg #[.bool true, .bool false, .slice none 0 0, .int .i64 0]) (by simp [results, Tryz.results8, go_sem, s0, s1, s2, s3]) rfl (FIN.out _ _ _ _ _ _ _ _ rfl rfl rfl rfl)
      | false =>
        obtain rfl : ro = ⟨false, true, [], 0⟩ := HP.out
        have hk2 : (k == 2) = false := hk
        obtain ⟨s0, s1, s2, s3, t0, t1, t2, t3, lS, FIN⟩ := rb_fin ⟨false, true, [], 0⟩ w w1 R1.out B1.out none 0 w1 (RdC.nil _ _) (Nat.le_refl _) (by omega) (fun g hg => by cases hg) (Below.refl _ _)
        clear R1 B1 HP hk
        go_wp2
        exact bodyPost_ret (v := .agg #[.bool false, .bool true, .slice none 0 0, .int .i64 0]) (by simp [results, Tryz.results8, go_sem, s0, s1, s2, s3]) rfl (FIN.out _ _ _ _ _ _ _ _ rfl rfl rfl rfl)
    · have d1 : decide (200 ≤ s) = false := decide_eq_false h2
      clear h1 RE
      go_wp2_with fail
      refine (CL.out _).mono ?_
      rintro e w1 ⟨⟨k, rfl, hk⟩, hb1⟩
      have R1 := Lib.hid (RB.out.later hb1)
      have B1 := Lib.hid (B0.out.trans (hb1.mono B0.out.size))
      clear hb1 RB B0 CL
      cases g with
      | true =>
        obtain rfl : ro = ⟨true, false, [], 0⟩ := HP.out
        have hk2 : (k == 2) = true := hk
        obtain ⟨s0, s1, s2, s3, t0, t1, t2, t3, lS, FIN⟩ := rb_fin ⟨true, false, [], 0⟩ w w1 R1.out B1.out none 0 w1 (RdC.nil _ _) (Nat.le_refl _) (by omega) (fun g hg => by cases hg) (Below.refl _ _)
        clear R1 B1 HP hk
        go_wp2
        exact bodyPost_ret (v := .agg #[.bool true, .bool false, .slice none 0 0, .int .i64 0]) (by simp [results, Tryz.results8, go_sem, s0, s1, s2, s3]) rfl (FIN.out _ _ _ _ _ _ _ _ rfl rfl rfl rfl)
      | false =>
        obtain rfl : ro = ⟨false, true, [], 0⟩ := HP.out
        have hk2 : (k == 2) = false := hk
        obtain ⟨s0, s1, s2, s3, t0, t1, t2, t3, lS, FIN⟩ := rb_fin ⟨false, true, [], 0⟩ w w1 R1.out B1.out none 0 w1 (RdC.nil _ _) (Nat.le_refl _) (by omega) (fun g hg => by cases hg) (Below.refl _ _)
        clear R1 B1 HP hk
        go_wp2
        exact bodyPost_ret (v := .agg #[.bool false, .bool true, .slice none 0 0, .int .i64 0]) (by simp [results, Tryz.results8, go_sem, s0, s1, s2, s3]) rfl (FIN.out _ _ _ _ _ _ _ _ rfl rfl rfl rfl)
end Go.Proofs.YtodlecjbpmggiaaGreatDoor
